/-
  The walk of the statement CatalogEdges: the call returns true; nothing that was in memory turns.
-/
import Derived.Test.YtjiigbmfbmkhjaaKRuns
import Derived.Test.YtjiigbmfbmkhjaaZ2
import Derived.BigRegion
namespace Go.Proofs.Ytjiigbmfbmkhjaa
set_option linter.unusedVariables false
set_option linter.unusedSimpArgs false
set_option maxRecDepth 100000
open Go.RowKit

def edgeF (k : Nat) : List Fl := (List.range k).map (fun i => ⟨((i : Nat) : Int) + 1, 65535, 65535, 512⟩)
def edgeC (k : Nat) : Ct := ⟨1000, 20, 0, false, ⟨0, 1073741824, 64, 16⟩, edgeF k⟩
theorem edgeF_len (k : Nat) : (edgeF k).length = k := by unfold edgeF; rw [List.length_map, List.length_range]
theorem edgeF_snoc (k : Nat) : edgeF (k + 1) = edgeF k ++ [⟨((k : Nat) : Int) + 1, 65535, 65535, 512⟩] := by unfold edgeF; rw [List.range_succ, List.map_append]; rfl
theorem edgeF_at (k i : Nat) (h : i < k) : flAt (edgeF k) i = ⟨((i : Nat) : Int) + 1, 65535, 65535, 512⟩ := by unfold edgeF; exact flAt_map k _ i h
theorem edgeC_ok (k : Nat) : (edgeC k).Ok := ⟨⟨by show (-9223372036854775808 : Int) ≤ 1000; decide, by show (1000 : Int) ≤ 9223372036854775807; decide⟩, ⟨by show (-9223372036854775808 : Int) ≤ 20; decide, by show (20 : Int) ≤ 9223372036854775807; decide⟩, ⟨by show (-9223372036854775808 : Int) ≤ 0; decide, by show (0 : Int) ≤ 9223372036854775807; decide⟩, ⟨⟨by show (-9223372036854775808 : Int) ≤ 0; decide, by show (0 : Int) ≤ 9223372036854775807; decide⟩, ⟨by show (-9223372036854775808 : Int) ≤ 1073741824; decide, by show (1073741824 : Int) ≤ 9223372036854775807; decide⟩, ⟨by show (-9223372036854775808 : Int) ≤ 64; decide, by show (64 : Int) ≤ 9223372036854775807; decide⟩, ⟨by show (-9223372036854775808 : Int) ≤ 16; decide, by show (16 : Int) ≤ 9223372036854775807; decide⟩⟩⟩
theorem edge_right : (edgeC 14).Right := by
  have hl : (edgeC 14).files.length = 14 := edgeF_len 14
  refine ⟨by show (0 : Int) ≤ 1000 ∧ (1000 : Int) ≤ 1000; decide, by show (0 : Int) ≤ 20 ∧ (20 : Int) ≤ 20; decide, by show (0 : Int) ≤ 0 ∧ (0 : Int) ≤ 7; decide, fun _ => rfl, Or.inr ⟨by show (0 : Int) ≤ 0; decide, by show (0 : Int) ≤ 1073741824; decide, by show (1073741824 : Int) ≤ 1073741824; decide, by show (2 : Int) ≤ 64 ∧ (64 : Int) ≤ 64; decide, by show (2 : Int) ≤ 16 ∧ (16 : Int) ≤ 16; decide⟩, by rw [hl]; decide, fun i hi => ?_, fun i hi => ?_⟩
  · rw [hl] at hi
    have e : flAt (edgeC 14).files i = _ := edgeF_at 14 i hi
    rw [e]
    exact ⟨⟨by show 1 ≤ (i : Int) + 1; omega, by show (i : Int) + 1 ≤ 255; omega⟩, by show (1 : Int) ≤ 65535 ∧ (65535 : Int) ≤ 65535; decide, by show (0 : Int) ≤ 512 ∧ (512 : Int) ≤ 512; decide, by show (0 : Int) ≤ 65535 ∧ (65535 : Int) ≤ 65535; decide, by show (512 : Int) = 0 ↔ (65535 : Int) = 0; decide⟩
  · rw [hl] at hi
    have e1 : flAt (edgeC 14).files i = _ := edgeF_at 14 i (by omega)
    have e2 : flAt (edgeC 14).files (i + 1) = _ := edgeF_at 14 (i + 1) hi
    rw [e1, e2]
    show (i : Int) + 1 < ((i + 1 : Nat) : Int) + 1
    omega
theorem CtAt.setI {w : World} {b n cap k : Nat} {c c' : Ct} {A : Option Addr} {v : Value} (h : CtAt w b c A n cap) (e : (ctv c A n cap).set k v = ctv c' A n cap) : CtAt (w.setCell ⟨b, k, none⟩ v) b c' A n cap := by
  have := Arr.set h k v
  rw [e] at this
  exact this
theorem OwnF.setK {w : World} {base g n cap k : Nat} {l l' : List Fl} {v : Value} (h : OwnF w base (some ⟨g, 0, none⟩) n cap l) (e : (flvs l).set k v = flvs l') (hl : l'.length = n) (hok : ∀ i, i < l'.length → (flAt l' i).Ok) : OwnF (w.setCell ⟨g, k, none⟩ v) base (some ⟨g, 0, none⟩) n cap l' :=
  ⟨by rw [← e]; exact h.1.set _ _, hl, hok⟩
/-- The fourth file with other numbers. -/
def edgeF3 (f : Fl) : List Fl := (edgeF 14).set 3 f
theorem edgeF3_len (f : Fl) : (edgeF3 f).length = 14 := by unfold edgeF3; rw [List.length_set, edgeF_len]
theorem edgeF3_at (f : Fl) : flAt (edgeF3 f) 3 = f := by unfold edgeF3; rw [flAt_set _ _ _ _ (by rw [edgeF_len]; decide), if_pos rfl]
theorem edgeF3_ok (f : Fl) (hf : f.Ok) (i : Nat) (hi : i < (edgeF3 f).length) : (flAt (edgeF3 f) i).Ok := by
  rw [edgeF3_len] at hi
  unfold edgeF3
  rw [flAt_set _ _ _ _ (by rw [edgeF_len]; decide)]
  split
  · exact hf
  · rw [edgeF_at 14 i hi]
    exact ⟨⟨by show (-9223372036854775808 : Int) ≤ (i : Int) + 1; omega, by show (i : Int) + 1 ≤ 9223372036854775807; omega⟩, ⟨by show (-9223372036854775808 : Int) ≤ 65535; decide, by show (65535 : Int) ≤ 9223372036854775807; decide⟩, ⟨by show (-9223372036854775808 : Int) ≤ 65535; decide, by show (65535 : Int) ≤ 9223372036854775807; decide⟩, ⟨by show (-9223372036854775808 : Int) ≤ 512; decide, by show (512 : Int) ≤ 9223372036854775807; decide⟩⟩
theorem edgeF3_bad (f : Fl) (hf : ¬ f.Right) : ¬ ({ edgeC 14 with files := edgeF3 f } : Ct).Right := fun r => hf (by
  have := r.f 3 (by show 3 < (edgeF3 f).length; rw [edgeF3_len]; decide)
  have e : flAt (edgeF3 f) 3 = f := edgeF3_at f
  have this : (flAt (edgeF3 f) 3).Right := this
  rw [e] at this
  exact this)
theorem card_bad {c : Ct} (hb : c.card.budget ≠ 0) (h : ¬ c.card.Right) : ¬ c.Right := fun r => by
  rcases r.k with q | q
  · exact hb (by rw [q]; rfl)
  · exact h q
attribute [local go_sem ↓] eqlLf_eq zeroLf_eq zeroLf_eq'
set_option maxHeartbeats 8000000 in
theorem kedges_any (what by_ : Int) (w : World) (h1 : I64 what) (h2 : I64 by_) :
    Calls Try.prog 7 #[.int .i64 what, .int .i64 by_] w fun e w' => e = .returned (.bool true) ∧ Below w.heap.size w w' := by
  have H1 := Lib.hid h1; have H2 := Lib.hid h2
  clear h1 h2
  go_enter Try.func7, Try.ntmps7
  go_upto_region 2 with fail
  obtain ⟨W1, hW1⟩ : ∃ W1, W1 = w.alloc (.cells #[.int .i64 1000, .int .i64 20, .int .i64 0, .bool false, .int .i64 0, .int .i64 1073741824, .int .i64 64, .int .i64 16, .slice none 0 0] 29) := ⟨_, rfl⟩
  rw [← hW1]
  obtain ⟨b, hb⟩ : ∃ b, b = w.heap.size := ⟨_, rfl⟩
  rw [← hb]
  have C1 : Hid (CtAt W1 b (edgeC 0) none 0 0) := Lib.hid (by rw [hW1, hb]; exact Arr.new w _ (ctv (edgeC 0) none 0 0))
  have B1 : Hid (Below w.heap.size w W1) := Lib.hid (by rw [hW1]; exact below_alloc _ _)
  have hbw : w.heap.size ≤ b := by omega
  clear hW1 hb
  go_wp2
  go_loopw [6] (fun iv wr => ∃ (k : Nat) (A : Option Addr) (cap : Nat), k ≤ 14 ∧ iv = .int .i64 ((k : Int) + 1) ∧ CtAt wr b (edgeC k) A k cap ∧ OwnF wr w.heap.size A k cap (edgeF k) ∧ Below w.heap.size w wr) (fun iv _ => 15 - (intOf iv).toNat)
  case atStart => exact ⟨0, none, 0, by decide, rfl, C1.out, OwnF.nil _ _, B1.out⟩
  case round =>
    clear C1 B1
    obtain ⟨k, A, cap, hk, rfl, c2, o2, b2⟩ := hrel
    have C2 := Lib.hid c2; have O2 := Lib.hid o2; have B2 := Lib.hid b2
    clear c2 o2 b2
    by_cases hlt : k < 14
    · have i1 : decide ((k : Int) + 1 ≤ 14) = true := by rw [decide_eq_true_eq]; omega
      have kw : IntKind.i64.wrap ((k : Int) + 1 + 1) = (k : Int) + 1 + 1 := IntWalk.i64_in _ (by omega)
      obtain ⟨_, _, _, _, _, _, _, _, x8⟩ := C2.out.cells
      have CV : Hid (CtAt (wr.alloc (.cells #[.int .i64 ((k : Int) + 1), .int .i64 65535, .int .i64 65535, .int .i64 512] 25)) b (edgeC k) A k cap) := Lib.hid (C2.out.alloc _)
      have OV : Hid (OwnF (wr.alloc (.cells #[.int .i64 ((k : Int) + 1), .int .i64 65535, .int .i64 65535, .int .i64 512] 25)) w.heap.size A k cap (edgeF k)) := Lib.hid (O2.out.alloc _)
      have BV : Hid (Below w.heap.size w (wr.alloc (.cells #[.int .i64 ((k : Int) + 1), .int .i64 65535, .int .i64 65535, .int .i64 512] 25))) := Lib.hid (bstep B2.out (below_alloc _ _))
      have FK : Hid (Fl.Ok ⟨(k : Int) + 1, 65535, 65535, 512⟩) := Lib.hid ⟨⟨by show (-9223372036854775808 : Int) ≤ (k : Int) + 1; omega, by show (k : Int) + 1 ≤ 9223372036854775807; omega⟩, ⟨by show (-9223372036854775808 : Int) ≤ 65535; decide, by show (65535 : Int) ≤ 9223372036854775807; decide⟩, ⟨by show (-9223372036854775808 : Int) ≤ 65535; decide, by show (65535 : Int) ≤ 9223372036854775807; decide⟩, ⟨by show (-9223372036854775808 : Int) ≤ 512; decide, by show (512 : Int) ≤ 9223372036854775807; decide⟩⟩
      have SN := Lib.hid (edgeF_snoc k)
      go_wp2_with (at_builtin; go_loud (refine app_fl _ rfl _ _ rfl w.heap.size k cap A (edgeF k) rfl OV.out wr.heap.size 0 1 ⟨(k : Int) + 1, 65535, 65535, 512⟩ rfl (FlAt4.new wr ⟨(k : Int) + 1, 65535, 65535, 512⟩ _ _) FK.out (by omega) BV.out.size ?_))
      intro g' cap' w' o' fk
      have C3 := Lib.hid (CV.out.fk fk (fun a ha => ct_ne_f CV.out OV.out a ha))
      have O3 : Hid (OwnF w' w.heap.size (some ⟨g', 0, none⟩) (k + 1) cap' (edgeF (k + 1))) := Lib.hid (by rw [SN.out]; exact o')
      have B3 := Lib.hid (fk.below (fun a ha => (OV.out.lt a ha).1) BV.out BV.out.size)
      clear o' fk x8 CV OV BV
      obtain ⟨_, _, _, _, _, _, _, _, y8⟩ := C3.out.cells
      have fz := Arr.frozen C3.out 8
      have C4 : Hid (CtAt (w'.setCell ⟨b, 8, none⟩ (.slice (some ⟨g', 0, none⟩) (k + 1) cap')) b (edgeC (k + 1)) (some ⟨g', 0, none⟩) (k + 1) cap') := Lib.hid (CtAt.files (c := edgeC (k + 1)) C3.out)
      have O4 : Hid (OwnF (w'.setCell ⟨b, 8, none⟩ (.slice (some ⟨g', 0, none⟩) (k + 1) cap')) w.heap.size (some ⟨g', 0, none⟩) (k + 1) cap' (edgeF (k + 1))) := Lib.hid (O3.out.other (fun a ha e => ct_ne_f C3.out O3.out a ha e.symm) _)
      have B4 : Hid (Below w.heap.size w (w'.setCell ⟨b, 8, none⟩ (.slice (some ⟨g', 0, none⟩) (k + 1) cap'))) := Lib.hid ((keep_set (F := (· = b)) rfl).below (fun q hq => by rw [hq]; exact hbw) B3.out B3.out.size)
      clear C3 O3 B3
      go_wp2
      go_roundw
      case rel => exact ⟨k + 1, some ⟨g', 0, none⟩, cap', by omega, by go_num, C4.out, O4.out, B4.out⟩
      case measure => simp [intOf]; omega
    · obtain rfl : k = 14 := by omega
      have i1 : decide ((((14 : Nat) : Int) + 1) ≤ 14) = false := by decide
      have i2 : decide ((15 : Int) ≤ 14) = false := by decide
      obtain ⟨E, hE⟩ : ∃ E, edgeC 14 = E := ⟨_, rfl⟩
      have EF : Hid (E.files = edgeF 14) := Lib.hid (by rw [← hE]; rfl)
      have EOK : Hid E.Ok := Lib.hid (by rw [← hE]; exact edgeC_ok 14)
      have ER : Hid E.Right := Lib.hid (by rw [← hE]; exact edge_right)
      have HE := Lib.hid hE
      have ELen : Hid (E.files.length = 14) := Lib.hid (by rw [EF.out]; exact edgeF_len 14)
      rw [hE] at C2
      rw [← EF.out] at O2
      have PC := Lib.hid (put_cat E EOK.out wr.heap.size A 14 cap wr ELen.out (by decide) O2.out.reads (Nat.le_refl _))
      unfold PutC at PC
      obtain ⟨L, hL⟩ : ∃ L, E.putL = L := ⟨_, rfl⟩
      rw [hL] at PC
      have hL' : L = E.leaf := by rw [← hL, Ct.putL_yes ER.out]
      have LOK : Hid L.Ok := Lib.hid (by rw [hL']; exact Ct.leaf_ok ER.out)
      have LGC : Hid (gotC L = E) := Lib.hid (by rw [hL']; exact (got_leaf ER.out).1)
      have LGK : Hid (gotK L = true) := Lib.hid (by rw [hL']; exact (got_leaf ER.out).2)
      clear hL hL' hE
      go_wp2_with (with_reducible refine load_ct rfl _ rfl b E A 14 cap C2.out rfl ?_)
      refine PC.out.mono ?_
      rintro e w3 ⟨rfl, b3⟩
      have C3 := Lib.hid (C2.out.below b3)
      have O3 := Lib.hid (O2.out.below b3)
      have B3 := Lib.hid (bstep B2.out b3)
      clear b3 C2 O2 B2 PC
      go_wp2_with (with_reducible refine alloc_leaf rfl rfl ?_)
      intro w4 l4 b4 s4
      obtain ⟨p, hp⟩ : ∃ p, p = w3.heap.size := ⟨_, rfl⟩
      rw [← hp] at l4 ⊢
      have P4 := Lib.hid l4
      have C4 := Lib.hid (C3.out.below b4)
      have O4 := Lib.hid (O3.out.below b4)
      have B4 := Lib.hid (bstep B3.out b4)
      have hbp : b < p := by have := C3.out.lt; omega
      have OP : Hid (∀ a, A = some a → a.block < p) := Lib.hid (fun a ha => by have := (O3.out.lt a ha).2; omega)
      clear l4 b4 s4 hp C3 O3 B3
      go_wp2_with (with_reducible refine store_leaf rfl _ _ rfl p Lf.zero L P4.out LOK.out rfl rfl ?_)
      intro w5 l5 k5 s5
      have P5 := Lib.hid l5
      have C5 := Lib.hid (C4.out.keep k5 (by omega))
      have O5 := Lib.hid (O4.out.keep k5 (fun a ha e => by have := OP.out a ha; omega))
      have B5 := Lib.hid (k5.below (fun k hk => by omega) B4.out B4.out.size)
      clear l5 k5 s5 P4 C4 O4 B4
      have GC := Lib.hid (getc_any L LOK.out w5)
      unfold GetC at GC
      rw [LGC.out, LGK.out] at GC
      go_wp2_with (with_reducible refine load_leaf rfl _ rfl p L P5.out rfl ?_)
      refine GC.out.mono ?_
      rintro e w6 ⟨A6, n6, c6, rfl, o6, b6⟩
      have C6 := Lib.hid (C5.out.below b6)
      have O6 := Lib.hid (O5.out.below b6)
      have B6 := Lib.hid (bstep B5.out b6)
      have N6 : Hid (n6 = 14) := Lib.hid (by rw [← o6.2.1]; exact ELen.out)
      have G6 := Lib.hid (o6.weak (base' := p) (fun a ha => by have := (o6.lt a ha).1; have := P5.out.lt; omega))
      clear b6 o6 P5 C5 O5 B5 GC
      go_wp2_with (with_reducible refine alloc_ct rfl rfl ?_)
      intro w7 l7 b7 s7
      obtain ⟨d, hd⟩ : ∃ d, d = w6.heap.size := ⟨_, rfl⟩
      rw [← hd] at l7 ⊢
      have D7 := Lib.hid l7
      have C7 := Lib.hid (C6.out.below b7)
      have O7 := Lib.hid (O6.out.below b7)
      have G7 := Lib.hid (G6.out.below b7)
      have OD : Hid (∀ a, A6 = some a → a.block < d) := Lib.hid (fun a ha => by have := (G6.out.lt a ha).2; omega)
      have OD2 : Hid (∀ a, A = some a → a.block < d) := Lib.hid (fun a ha => by have := (O6.out.lt a ha).2; omega)
      have B7 := Lib.hid (bstep B6.out b7)
      have hbd : b < d := by have := C6.out.lt; omega
      clear l7 b7 s7 hd C6 O6 G6 B6
      go_wp2_with (with_reducible refine store_ct rfl _ _ rfl d Ct.zero E none A6 0 n6 0 c6 D7.out rfl rfl ?_)
      intro w8 l8 k8 s8
      have D8 := Lib.hid l8
      have C8 := Lib.hid (C7.out.keep k8 (by omega))
      have O8 := Lib.hid (O7.out.keep k8 (fun a ha e => by have := OD2.out a ha; omega))
      have G8 := Lib.hid (G7.out.keep k8 (fun a ha e => by have := OD.out a ha; omega))
      have B8 := Lib.hid (k8.below (fun k hk => by omega) B7.out B7.out.size)
      clear l8 k8 s8 D7 C7 O7 G7 B7
      have RC := Lib.hid (cat_any E EOK.out w8.heap.size A 14 cap w8 ELen.out (by decide) O8.out.reads (Nat.le_refl _))
      rw [Ct.rt_iff.2 ER.out] at RC
      go_wp2_with (with_reducible refine load_ct rfl _ rfl b E A 14 cap C8.out rfl ?_)
      refine RC.out.mono ?_
      rintro e w9 ⟨rfl, b9⟩
      have D9 := Lib.hid (D8.out.below b9)
      have C9 := Lib.hid (C8.out.below b9)
      have O9 := Lib.hid (O8.out.below b9)
      have G9 := Lib.hid (G8.out.below b9)
      have B9 := Lib.hid (bstep B8.out b9)
      clear b9 RC D8 C8 O8 G8 B8
      have CK : Hid (Calls Try.prog 11 #[.agg (ctv E A 14 cap).toArray, .agg (ctv E A6 n6 c6).toArray] w9 fun e w' => e = .returned (.bool true) ∧ Below w9.heap.size w9 w') := Lib.hid (by
        have := cats_any E E EOK.out EOK.out w9.heap.size A A6 14 n6 cap c6 w9 (by decide) (by rw [N6.out]; decide) ELen.out (by rw [N6.out]; exact ELen.out) O9.out.reads G9.out.reads (Nat.le_refl _)
        rw [decide_eq_true (rfl : E = E)] at this
        exact this)
      obtain ⟨k0, k1, k2, k3, k4, k5, k6, k7, k8⟩ := C9.out.cells
      obtain ⟨m0, m1, m2, m3, m4, m5, m6, m7, m8⟩ := D9.out.cells
      go_wp2_with fail
      refine CK.out.mono ?_
      rintro e w10 ⟨rfl, b10⟩
      have C10 := Lib.hid (C9.out.below b10)
      have O10 := Lib.hid (O9.out.below b10)
      have B10 := Lib.hid (bstep B9.out b10)
      clear b10 CK k0 k1 k2 k3 k4 k5 k6 k7 k8 m0 m1 m2 m3 m4 m5 m6 m7 m8 C9 O9 B9 D9 G9 LGC LGK LOK N6 OD OD2 OP
      go_wp2_with fail
      refine (within_in by_ 0 99 H2.out (by decide) (by decide) (by decide) (by decide) w10).mono ?_
      rintro e w' ⟨n, rfl, n0, n1, rfl⟩
      go_wp2_with fail
      refine (within_in what 0 13 H1.out (by decide) (by decide) (by decide) (by decide) w10).mono ?_
      rintro e w' ⟨s, rfl, s0, s1, rfl⟩
      obtain ⟨c0, c1, c2, c3, c4, c5, c6x, c7, c8⟩ := C10.out.cells
      have e0 : E.gen = 1000 ∧ E.step = 20 ∧ E.status = 0 ∧ E.ended = false ∧ E.card.frm = 0 ∧ E.card.to_ = 1073741824 ∧ E.card.budget = 64 ∧ E.card.fan = 16 := by rw [← HE.out]; exact ⟨rfl, rfl, rfl, rfl, rfl, rfl, rfl, rfl⟩
      obtain ⟨e0, e1, e2, e3, e4, e5, e6, e7⟩ := e0
      rw [e0] at c0; rw [e1] at c1; rw [e2] at c2; rw [e4] at c4; rw [e5] at c5; rw [e6] at c6x; rw [e7] at c7
      clear e0 e1 e2 e3 e4 e5 e6 e7
      have fzb := Arr.frozen C10.out
      obtain ⟨g, hA, hgx⟩ := O10.out.1.at (by decide)
      subst hA
      clear hgx
      have fzg := OwnF.frozen O10.out (by decide)
      rw [EF.out] at O10
      obtain ⟨px, py⟩ := O10.out.cells4 2 (by decide)
      have p0 : w10.cell? ⟨g, 8, none⟩ = some (.int .i64 3) := px
      obtain ⟨qx0, qx1, qx2, qx3, qx4⟩ := O10.out.cells4 3 (by decide)
      have q0 : w10.cell? ⟨g, 12, none⟩ = some (.int .i64 4) := qx0
      have q1 : w10.cell? ⟨g, 13, none⟩ = some (.int .i64 65535) := qx1
      have q2 : w10.cell? ⟨g, 14, none⟩ = some (.int .i64 65535) := qx2
      have q3 : w10.cell? ⟨g, 15, none⟩ = some (.int .i64 512) := qx3
      clear px py qx0 qx1 qx2 qx3 qx4
      have hbg : b ≠ g := fun e => ct_ne_f C10.out O10.out _ rfl e
      have hgw : w.heap.size ≤ g := (O10.out.lt _ rfl).1
      rw [← HE.out] at C10
      clear EOK ER ELen EF HE
      have hs : s = 0 ∨ s = 1 ∨ s = 2 ∨ s = 3 ∨ s = 4 ∨ s = 5 ∨ s = 6 ∨ s = 7 ∨ s = 8 ∨ s = 9 ∨ s = 10 ∨ s = 11 ∨ s = 12 ∨ s = 13 := by omega
      rcases hs with rfl | rfl | rfl | rfl | rfl | rfl | rfl | rfl | rfl | rfl | rfl | rfl | rfl | rfl
      · as_aux_lemma =>
        have CM : Hid (CtAt (w10.setCell ⟨b, 0, none⟩ (.int .i64 (1000 + (1 + n)))) b { edgeC 14 with gen := 1000 + (1 + n) } (some ⟨g, 0, none⟩) 14 cap) := Lib.hid (CtAt.setI C10.out rfl)
        have OM : Hid (OwnF (w10.setCell ⟨b, 0, none⟩ (.int .i64 (1000 + (1 + n)))) w.heap.size (some ⟨g, 0, none⟩) 14 cap (edgeF 14)) := Lib.hid (O10.out.other (fun a ha e => hbg (by injection ha with ha; subst ha; exact e.symm)) _)
        have BM : Hid (Below w.heap.size w (w10.setCell ⟨b, 0, none⟩ (.int .i64 (1000 + (1 + n))))) := Lib.hid ((keep_set (F := (· = b)) rfl).below (fun q hq => by rw [hq]; exact hbw) B10.out B10.out.size)
        obtain ⟨M, hM⟩ : ∃ M : Ct, M = { edgeC 14 with gen := 1000 + (1 + n) } := ⟨_, rfl⟩
        have MR : Hid (M.rt = false) := Lib.hid (Ct.rt_no.2 (by rw [hM]; exact fun r => by have q := r.g; have q : 0 ≤ 1000 + (1 + n) ∧ 1000 + (1 + n) ≤ 1000 := q; omega))
        have MOK : Hid M.Ok := Lib.hid (by rw [hM]; exact ⟨⟨by show (-9223372036854775808 : Int) ≤ 1000 + (1 + n); omega, by show 1000 + (1 + n) ≤ (9223372036854775807 : Int); omega⟩, (edgeC_ok 14).s, (edgeC_ok 14).t, ⟨(edgeC_ok 14).k.a, (edgeC_ok 14).k.b, (edgeC_ok 14).k.c, (edgeC_ok 14).k.d⟩⟩)
        have MF : Hid (M.files = edgeF 14) := Lib.hid (by subst hM; rfl)
        rw [← hM] at CM
        clear hM
        go_upto_region 39 with fail
        obtain ⟨wm, hwm⟩ : ∃ wm, wm = (w10.setCell ⟨b, 0, none⟩ (.int .i64 (1000 + (1 + n)))) := ⟨_, rfl⟩
        rw [← hwm] at CM OM BM
        rw [← hwm]
        clear hwm c0 c1 c2 c3 c4 c5 c6x c7 c8 p0 q0 q1 q2 q3 fzb fzg C10 O10 B10
        have RC := Lib.hid (cat_any M MOK.out wm.heap.size (some ⟨g, 0, none⟩) 14 cap wm (by rw [MF.out]; exact OM.out.2.1) (by decide) (by rw [MF.out]; exact OM.out.reads) (Nat.le_refl _))
        rw [MR.out] at RC
        go_wp2_with (with_reducible refine load_ct rfl _ rfl b M (some ⟨g, 0, none⟩) 14 cap CM.out rfl ?_)
        refine RC.out.mono ?_
        rintro e wn ⟨rfl, bn⟩
        have CN := Lib.hid (CM.out.below bn)
        have ON := Lib.hid (OM.out.below bn)
        have BN := Lib.hid (bstep BM.out bn)
        clear bn CM OM BM RC
        have PC := Lib.hid (put_cat M MOK.out wn.heap.size (some ⟨g, 0, none⟩) 14 cap wn (by rw [MF.out]; exact ON.out.2.1) (by decide) (by rw [MF.out]; exact ON.out.reads) (Nat.le_refl _))
        unfold PutC at PC
        rw [Ct.putL_no (Ct.rt_no.1 MR.out)] at PC
        obtain ⟨k0, k1, k2, k3, k4, k5, k6, k7, k8⟩ := CN.out.cells
        go_wp2_with fail
        refine PC.out.mono ?_
        rintro e wo ⟨rfl, bo⟩
        have BO := Lib.hid (bstep BN.out bo)
        clear bo k0 k1 k2 k3 k4 k5 k6 k7 k8 CN ON BN PC
        have zr := zeroLf_run
        have eq1 := eqlLf_run Lf.zero_ok Lf.zero_ok
        rw [decide_eq_true (rfl : Lf.zero = Lf.zero)] at eq1
        have eg := lf_guard
        go_wp2_with fail
        refine (kruns_any wo).mono ?_
        rintro e wp ⟨rfl, bp⟩
        have BP := Lib.hid (bstep BO.out bp)
        clear bp BO zr eq1 eg
        go_wp2
        go_ret
        exact ⟨rfl, BP.out⟩
      · as_aux_lemma =>
        have CM : Hid (CtAt (w10.setCell ⟨b, 1, none⟩ (.int .i64 (20 + (1 + n)))) b { edgeC 14 with step := 20 + (1 + n) } (some ⟨g, 0, none⟩) 14 cap) := Lib.hid (CtAt.setI C10.out rfl)
        have OM : Hid (OwnF (w10.setCell ⟨b, 1, none⟩ (.int .i64 (20 + (1 + n)))) w.heap.size (some ⟨g, 0, none⟩) 14 cap (edgeF 14)) := Lib.hid (O10.out.other (fun a ha e => hbg (by injection ha with ha; subst ha; exact e.symm)) _)
        have BM : Hid (Below w.heap.size w (w10.setCell ⟨b, 1, none⟩ (.int .i64 (20 + (1 + n))))) := Lib.hid ((keep_set (F := (· = b)) rfl).below (fun q hq => by rw [hq]; exact hbw) B10.out B10.out.size)
        obtain ⟨M, hM⟩ : ∃ M : Ct, M = { edgeC 14 with step := 20 + (1 + n) } := ⟨_, rfl⟩
        have MR : Hid (M.rt = false) := Lib.hid (Ct.rt_no.2 (by rw [hM]; exact fun r => by have q := r.s; have q : 0 ≤ 20 + (1 + n) ∧ 20 + (1 + n) ≤ 20 := q; omega))
        have MOK : Hid M.Ok := Lib.hid (by rw [hM]; exact ⟨(edgeC_ok 14).g, ⟨by show (-9223372036854775808 : Int) ≤ 20 + (1 + n); omega, by show 20 + (1 + n) ≤ (9223372036854775807 : Int); omega⟩, (edgeC_ok 14).t, ⟨(edgeC_ok 14).k.a, (edgeC_ok 14).k.b, (edgeC_ok 14).k.c, (edgeC_ok 14).k.d⟩⟩)
        have MF : Hid (M.files = edgeF 14) := Lib.hid (by subst hM; rfl)
        rw [← hM] at CM
        clear hM
        go_upto_region 39 with fail
        obtain ⟨wm, hwm⟩ : ∃ wm, wm = (w10.setCell ⟨b, 1, none⟩ (.int .i64 (20 + (1 + n)))) := ⟨_, rfl⟩
        rw [← hwm] at CM OM BM
        rw [← hwm]
        clear hwm c0 c1 c2 c3 c4 c5 c6x c7 c8 p0 q0 q1 q2 q3 fzb fzg C10 O10 B10
        have RC := Lib.hid (cat_any M MOK.out wm.heap.size (some ⟨g, 0, none⟩) 14 cap wm (by rw [MF.out]; exact OM.out.2.1) (by decide) (by rw [MF.out]; exact OM.out.reads) (Nat.le_refl _))
        rw [MR.out] at RC
        go_wp2_with (with_reducible refine load_ct rfl _ rfl b M (some ⟨g, 0, none⟩) 14 cap CM.out rfl ?_)
        refine RC.out.mono ?_
        rintro e wn ⟨rfl, bn⟩
        have CN := Lib.hid (CM.out.below bn)
        have ON := Lib.hid (OM.out.below bn)
        have BN := Lib.hid (bstep BM.out bn)
        clear bn CM OM BM RC
        have PC := Lib.hid (put_cat M MOK.out wn.heap.size (some ⟨g, 0, none⟩) 14 cap wn (by rw [MF.out]; exact ON.out.2.1) (by decide) (by rw [MF.out]; exact ON.out.reads) (Nat.le_refl _))
        unfold PutC at PC
        rw [Ct.putL_no (Ct.rt_no.1 MR.out)] at PC
        obtain ⟨k0, k1, k2, k3, k4, k5, k6, k7, k8⟩ := CN.out.cells
        go_wp2_with fail
        refine PC.out.mono ?_
        rintro e wo ⟨rfl, bo⟩
        have BO := Lib.hid (bstep BN.out bo)
        clear bo k0 k1 k2 k3 k4 k5 k6 k7 k8 CN ON BN PC
        have zr := zeroLf_run
        have eq1 := eqlLf_run Lf.zero_ok Lf.zero_ok
        rw [decide_eq_true (rfl : Lf.zero = Lf.zero)] at eq1
        have eg := lf_guard
        go_wp2_with fail
        refine (kruns_any wo).mono ?_
        rintro e wp ⟨rfl, bp⟩
        have BP := Lib.hid (bstep BO.out bp)
        clear bp BO zr eq1 eg
        go_wp2
        go_ret
        exact ⟨rfl, BP.out⟩
      · as_aux_lemma =>
        have CM : Hid (CtAt (w10.setCell ⟨b, 5, none⟩ (.int .i64 (1073741824 + (1 + n)))) b { edgeC 14 with card := { (edgeC 14).card with to_ := 1073741824 + (1 + n) } } (some ⟨g, 0, none⟩) 14 cap) := Lib.hid (CtAt.setI C10.out rfl)
        have OM : Hid (OwnF (w10.setCell ⟨b, 5, none⟩ (.int .i64 (1073741824 + (1 + n)))) w.heap.size (some ⟨g, 0, none⟩) 14 cap (edgeF 14)) := Lib.hid (O10.out.other (fun a ha e => hbg (by injection ha with ha; subst ha; exact e.symm)) _)
        have BM : Hid (Below w.heap.size w (w10.setCell ⟨b, 5, none⟩ (.int .i64 (1073741824 + (1 + n))))) := Lib.hid ((keep_set (F := (· = b)) rfl).below (fun q hq => by rw [hq]; exact hbw) B10.out B10.out.size)
        obtain ⟨M, hM⟩ : ∃ M : Ct, M = { edgeC 14 with card := { (edgeC 14).card with to_ := 1073741824 + (1 + n) } } := ⟨_, rfl⟩
        have MR : Hid (M.rt = false) := Lib.hid (Ct.rt_no.2 (by rw [hM]; exact card_bad (by show (64 : Int) ≠ 0; omega) (fun q => by have q := q.c; have q : 1073741824 + (1 + n) ≤ 1073741824 := q; omega)))
        have MOK : Hid M.Ok := Lib.hid (by rw [hM]; exact ⟨(edgeC_ok 14).g, (edgeC_ok 14).s, (edgeC_ok 14).t, ⟨(edgeC_ok 14).k.a, ⟨by show (-9223372036854775808 : Int) ≤ 1073741824 + (1 + n); omega, by show 1073741824 + (1 + n) ≤ (9223372036854775807 : Int); omega⟩, (edgeC_ok 14).k.c, (edgeC_ok 14).k.d⟩⟩)
        have MF : Hid (M.files = edgeF 14) := Lib.hid (by subst hM; rfl)
        rw [← hM] at CM
        clear hM
        go_upto_region 39 with fail
        obtain ⟨wm, hwm⟩ : ∃ wm, wm = (w10.setCell ⟨b, 5, none⟩ (.int .i64 (1073741824 + (1 + n)))) := ⟨_, rfl⟩
        rw [← hwm] at CM OM BM
        rw [← hwm]
        clear hwm c0 c1 c2 c3 c4 c5 c6x c7 c8 p0 q0 q1 q2 q3 fzb fzg C10 O10 B10
        have RC := Lib.hid (cat_any M MOK.out wm.heap.size (some ⟨g, 0, none⟩) 14 cap wm (by rw [MF.out]; exact OM.out.2.1) (by decide) (by rw [MF.out]; exact OM.out.reads) (Nat.le_refl _))
        rw [MR.out] at RC
        go_wp2_with (with_reducible refine load_ct rfl _ rfl b M (some ⟨g, 0, none⟩) 14 cap CM.out rfl ?_)
        refine RC.out.mono ?_
        rintro e wn ⟨rfl, bn⟩
        have CN := Lib.hid (CM.out.below bn)
        have ON := Lib.hid (OM.out.below bn)
        have BN := Lib.hid (bstep BM.out bn)
        clear bn CM OM BM RC
        have PC := Lib.hid (put_cat M MOK.out wn.heap.size (some ⟨g, 0, none⟩) 14 cap wn (by rw [MF.out]; exact ON.out.2.1) (by decide) (by rw [MF.out]; exact ON.out.reads) (Nat.le_refl _))
        unfold PutC at PC
        rw [Ct.putL_no (Ct.rt_no.1 MR.out)] at PC
        obtain ⟨k0, k1, k2, k3, k4, k5, k6, k7, k8⟩ := CN.out.cells
        go_wp2_with fail
        refine PC.out.mono ?_
        rintro e wo ⟨rfl, bo⟩
        have BO := Lib.hid (bstep BN.out bo)
        clear bo k0 k1 k2 k3 k4 k5 k6 k7 k8 CN ON BN PC
        have zr := zeroLf_run
        have eq1 := eqlLf_run Lf.zero_ok Lf.zero_ok
        rw [decide_eq_true (rfl : Lf.zero = Lf.zero)] at eq1
        have eg := lf_guard
        go_wp2_with fail
        refine (kruns_any wo).mono ?_
        rintro e wp ⟨rfl, bp⟩
        have BP := Lib.hid (bstep BO.out bp)
        clear bp BO zr eq1 eg
        go_wp2
        go_ret
        exact ⟨rfl, BP.out⟩
      · as_aux_lemma =>
        have CM : Hid (CtAt (w10.setCell ⟨b, 6, none⟩ (.int .i64 (64 + (1 + n)))) b { edgeC 14 with card := { (edgeC 14).card with budget := 64 + (1 + n) } } (some ⟨g, 0, none⟩) 14 cap) := Lib.hid (CtAt.setI C10.out rfl)
        have OM : Hid (OwnF (w10.setCell ⟨b, 6, none⟩ (.int .i64 (64 + (1 + n)))) w.heap.size (some ⟨g, 0, none⟩) 14 cap (edgeF 14)) := Lib.hid (O10.out.other (fun a ha e => hbg (by injection ha with ha; subst ha; exact e.symm)) _)
        have BM : Hid (Below w.heap.size w (w10.setCell ⟨b, 6, none⟩ (.int .i64 (64 + (1 + n))))) := Lib.hid ((keep_set (F := (· = b)) rfl).below (fun q hq => by rw [hq]; exact hbw) B10.out B10.out.size)
        obtain ⟨M, hM⟩ : ∃ M : Ct, M = { edgeC 14 with card := { (edgeC 14).card with budget := 64 + (1 + n) } } := ⟨_, rfl⟩
        have MR : Hid (M.rt = false) := Lib.hid (Ct.rt_no.2 (by rw [hM]; exact card_bad (by show 64 + (1 + n) ≠ 0; omega) (fun q => by have q := q.d.2; have q : 64 + (1 + n) ≤ 64 := q; omega)))
        have MOK : Hid M.Ok := Lib.hid (by rw [hM]; exact ⟨(edgeC_ok 14).g, (edgeC_ok 14).s, (edgeC_ok 14).t, ⟨(edgeC_ok 14).k.a, (edgeC_ok 14).k.b, ⟨by show (-9223372036854775808 : Int) ≤ 64 + (1 + n); omega, by show 64 + (1 + n) ≤ (9223372036854775807 : Int); omega⟩, (edgeC_ok 14).k.d⟩⟩)
        have MF : Hid (M.files = edgeF 14) := Lib.hid (by subst hM; rfl)
        rw [← hM] at CM
        clear hM
        go_upto_region 39 with fail
        obtain ⟨wm, hwm⟩ : ∃ wm, wm = (w10.setCell ⟨b, 6, none⟩ (.int .i64 (64 + (1 + n)))) := ⟨_, rfl⟩
        rw [← hwm] at CM OM BM
        rw [← hwm]
        clear hwm c0 c1 c2 c3 c4 c5 c6x c7 c8 p0 q0 q1 q2 q3 fzb fzg C10 O10 B10
        have RC := Lib.hid (cat_any M MOK.out wm.heap.size (some ⟨g, 0, none⟩) 14 cap wm (by rw [MF.out]; exact OM.out.2.1) (by decide) (by rw [MF.out]; exact OM.out.reads) (Nat.le_refl _))
        rw [MR.out] at RC
        go_wp2_with (with_reducible refine load_ct rfl _ rfl b M (some ⟨g, 0, none⟩) 14 cap CM.out rfl ?_)
        refine RC.out.mono ?_
        rintro e wn ⟨rfl, bn⟩
        have CN := Lib.hid (CM.out.below bn)
        have ON := Lib.hid (OM.out.below bn)
        have BN := Lib.hid (bstep BM.out bn)
        clear bn CM OM BM RC
        have PC := Lib.hid (put_cat M MOK.out wn.heap.size (some ⟨g, 0, none⟩) 14 cap wn (by rw [MF.out]; exact ON.out.2.1) (by decide) (by rw [MF.out]; exact ON.out.reads) (Nat.le_refl _))
        unfold PutC at PC
        rw [Ct.putL_no (Ct.rt_no.1 MR.out)] at PC
        obtain ⟨k0, k1, k2, k3, k4, k5, k6, k7, k8⟩ := CN.out.cells
        go_wp2_with fail
        refine PC.out.mono ?_
        rintro e wo ⟨rfl, bo⟩
        have BO := Lib.hid (bstep BN.out bo)
        clear bo k0 k1 k2 k3 k4 k5 k6 k7 k8 CN ON BN PC
        have zr := zeroLf_run
        have eq1 := eqlLf_run Lf.zero_ok Lf.zero_ok
        rw [decide_eq_true (rfl : Lf.zero = Lf.zero)] at eq1
        have eg := lf_guard
        go_wp2_with fail
        refine (kruns_any wo).mono ?_
        rintro e wp ⟨rfl, bp⟩
        have BP := Lib.hid (bstep BO.out bp)
        clear bp BO zr eq1 eg
        go_wp2
        go_ret
        exact ⟨rfl, BP.out⟩
      · as_aux_lemma =>
        have CM : Hid (CtAt (w10.setCell ⟨b, 7, none⟩ (.int .i64 (16 + (1 + n)))) b { edgeC 14 with card := { (edgeC 14).card with fan := 16 + (1 + n) } } (some ⟨g, 0, none⟩) 14 cap) := Lib.hid (CtAt.setI C10.out rfl)
        have OM : Hid (OwnF (w10.setCell ⟨b, 7, none⟩ (.int .i64 (16 + (1 + n)))) w.heap.size (some ⟨g, 0, none⟩) 14 cap (edgeF 14)) := Lib.hid (O10.out.other (fun a ha e => hbg (by injection ha with ha; subst ha; exact e.symm)) _)
        have BM : Hid (Below w.heap.size w (w10.setCell ⟨b, 7, none⟩ (.int .i64 (16 + (1 + n))))) := Lib.hid ((keep_set (F := (· = b)) rfl).below (fun q hq => by rw [hq]; exact hbw) B10.out B10.out.size)
        obtain ⟨M, hM⟩ : ∃ M : Ct, M = { edgeC 14 with card := { (edgeC 14).card with fan := 16 + (1 + n) } } := ⟨_, rfl⟩
        have MR : Hid (M.rt = false) := Lib.hid (Ct.rt_no.2 (by rw [hM]; exact card_bad (by show (64 : Int) ≠ 0; omega) (fun q => by have q := q.e.2; have q : 16 + (1 + n) ≤ 16 := q; omega)))
        have MOK : Hid M.Ok := Lib.hid (by rw [hM]; exact ⟨(edgeC_ok 14).g, (edgeC_ok 14).s, (edgeC_ok 14).t, ⟨(edgeC_ok 14).k.a, (edgeC_ok 14).k.b, (edgeC_ok 14).k.c, ⟨by show (-9223372036854775808 : Int) ≤ 16 + (1 + n); omega, by show 16 + (1 + n) ≤ (9223372036854775807 : Int); omega⟩⟩⟩)
        have MF : Hid (M.files = edgeF 14) := Lib.hid (by subst hM; rfl)
        rw [← hM] at CM
        clear hM
        go_upto_region 39 with fail
        obtain ⟨wm, hwm⟩ : ∃ wm, wm = (w10.setCell ⟨b, 7, none⟩ (.int .i64 (16 + (1 + n)))) := ⟨_, rfl⟩
        rw [← hwm] at CM OM BM
        rw [← hwm]
        clear hwm c0 c1 c2 c3 c4 c5 c6x c7 c8 p0 q0 q1 q2 q3 fzb fzg C10 O10 B10
        have RC := Lib.hid (cat_any M MOK.out wm.heap.size (some ⟨g, 0, none⟩) 14 cap wm (by rw [MF.out]; exact OM.out.2.1) (by decide) (by rw [MF.out]; exact OM.out.reads) (Nat.le_refl _))
        rw [MR.out] at RC
        go_wp2_with (with_reducible refine load_ct rfl _ rfl b M (some ⟨g, 0, none⟩) 14 cap CM.out rfl ?_)
        refine RC.out.mono ?_
        rintro e wn ⟨rfl, bn⟩
        have CN := Lib.hid (CM.out.below bn)
        have ON := Lib.hid (OM.out.below bn)
        have BN := Lib.hid (bstep BM.out bn)
        clear bn CM OM BM RC
        have PC := Lib.hid (put_cat M MOK.out wn.heap.size (some ⟨g, 0, none⟩) 14 cap wn (by rw [MF.out]; exact ON.out.2.1) (by decide) (by rw [MF.out]; exact ON.out.reads) (Nat.le_refl _))
        unfold PutC at PC
        rw [Ct.putL_no (Ct.rt_no.1 MR.out)] at PC
        obtain ⟨k0, k1, k2, k3, k4, k5, k6, k7, k8⟩ := CN.out.cells
        go_wp2_with fail
        refine PC.out.mono ?_
        rintro e wo ⟨rfl, bo⟩
        have BO := Lib.hid (bstep BN.out bo)
        clear bo k0 k1 k2 k3 k4 k5 k6 k7 k8 CN ON BN PC
        have zr := zeroLf_run
        have eq1 := eqlLf_run Lf.zero_ok Lf.zero_ok
        rw [decide_eq_true (rfl : Lf.zero = Lf.zero)] at eq1
        have eg := lf_guard
        go_wp2_with fail
        refine (kruns_any wo).mono ?_
        rintro e wp ⟨rfl, bp⟩
        have BP := Lib.hid (bstep BO.out bp)
        clear bp BO zr eq1 eg
        go_wp2
        go_ret
        exact ⟨rfl, BP.out⟩
      · as_aux_lemma =>
        have FK : Hid (Fl.Ok ⟨20, 1, 0, 0⟩) := Lib.hid ⟨⟨by decide, by decide⟩, ⟨by decide, by decide⟩, ⟨by decide, by decide⟩, ⟨by decide, by decide⟩⟩
        have OV : Hid (OwnF (w10.alloc (.cells #[.int .i64 20, .int .i64 1, .int .i64 0, .int .i64 0] 25)) w.heap.size (some ⟨g, 0, none⟩) 14 cap (edgeF 14)) := Lib.hid (O10.out.alloc _)
        have CV : Hid (CtAt (w10.alloc (.cells #[.int .i64 20, .int .i64 1, .int .i64 0, .int .i64 0] 25)) b (edgeC 14) (some ⟨g, 0, none⟩) 14 cap) := Lib.hid (C10.out.alloc _)
        have BV : Hid (Below w.heap.size w (w10.alloc (.cells #[.int .i64 20, .int .i64 1, .int .i64 0, .int .i64 0] 25))) := Lib.hid (bstep B10.out (below_alloc _ _))
        go_wp2_with (at_builtin; go_loud (refine app_fl _ rfl _ _ rfl w.heap.size 14 cap (some ⟨g, 0, none⟩) (edgeF 14) rfl OV.out w10.heap.size 0 1 ⟨20, 1, 0, 0⟩ rfl (FlAt4.new w10 ⟨20, 1, 0, 0⟩ _ _) FK.out (by omega) BV.out.size ?_))
        intro g' cap' w' o' fk
        have C3 := Lib.hid (CV.out.fk fk (fun a ha => ct_ne_f CV.out OV.out a ha))
        have O3 := Lib.hid o'
        have B3 := Lib.hid (fk.below (fun a ha => (OV.out.lt a ha).1) BV.out BV.out.size)
        clear o' fk CV OV BV c0 c1 c2 c3 c4 c5 c6x c7 c8 fzb
        obtain ⟨c0, c1, c2, c3, c4, c5, c6x, c7, c8⟩ := C3.out.cells
        have fzb := Arr.frozen C3.out
        have CM : Hid (CtAt (w'.setCell ⟨b, 8, none⟩ (.slice (some ⟨g', 0, none⟩) 15 cap')) b { edgeC 14 with files := edgeF 14 ++ [⟨20, 1, 0, 0⟩] } (some ⟨g', 0, none⟩) 15 cap') := Lib.hid (CtAt.files (c := { edgeC 14 with files := edgeF 14 ++ [⟨20, 1, 0, 0⟩] }) C3.out)
        have OM : Hid (OwnF (w'.setCell ⟨b, 8, none⟩ (.slice (some ⟨g', 0, none⟩) 15 cap')) w.heap.size (some ⟨g', 0, none⟩) 15 cap' (edgeF 14 ++ [⟨20, 1, 0, 0⟩])) := Lib.hid (O3.out.other (fun a ha e => ct_ne_f C3.out O3.out a ha e.symm) _)
        have BM : Hid (Below w.heap.size w (w'.setCell ⟨b, 8, none⟩ (.slice (some ⟨g', 0, none⟩) 15 cap'))) := Lib.hid ((keep_set (F := (· = b)) rfl).below (fun q hq => by rw [hq]; exact hbw) B3.out B3.out.size)
        obtain ⟨M, hM⟩ : ∃ M : Ct, M = { edgeC 14 with files := edgeF 14 ++ [⟨20, 1, 0, 0⟩] } := ⟨_, rfl⟩
        have MR : Hid (M.rt = false) := Lib.hid (Ct.rt_no.2 (by rw [hM]; exact fun r => by have q := r.m; have q : (edgeF 14 ++ [(⟨20, 1, 0, 0⟩ : Fl)]).length ≤ 14 := q; rw [List.length_append, edgeF_len] at q; simp at q))
        have MOK : Hid M.Ok := Lib.hid (by rw [hM]; exact ⟨(edgeC_ok 14).g, (edgeC_ok 14).s, (edgeC_ok 14).t, ⟨(edgeC_ok 14).k.a, (edgeC_ok 14).k.b, (edgeC_ok 14).k.c, (edgeC_ok 14).k.d⟩⟩)
        have MF : Hid (M.files = edgeF 14 ++ [⟨20, 1, 0, 0⟩]) := Lib.hid (by rw [hM])
        rw [← hM] at CM
        clear hM C3 O3 B3
        go_upto_region 39 with fail
        obtain ⟨wm, hwm⟩ : ∃ wm, wm = w'.setCell ⟨b, 8, none⟩ (.slice (some ⟨g', 0, none⟩) 15 cap') := ⟨_, rfl⟩
        rw [← hwm] at CM OM BM
        rw [← hwm]
        clear hwm c0 c1 c2 c3 c4 c5 c6x c7 c8 p0 q0 q1 q2 q3 fzb fzg C10 O10 B10
        have RC := Lib.hid (cat_any M MOK.out wm.heap.size (some ⟨g', 0, none⟩) 15 cap' wm (by rw [MF.out]; exact OM.out.2.1) (by decide) (by rw [MF.out]; exact OM.out.reads) (Nat.le_refl _))
        rw [MR.out] at RC
        go_wp2_with (with_reducible refine load_ct rfl _ rfl b M (some ⟨g', 0, none⟩) 15 cap' CM.out rfl ?_)
        refine RC.out.mono ?_
        rintro e wn ⟨rfl, bn⟩
        have CN := Lib.hid (CM.out.below bn)
        have ON := Lib.hid (OM.out.below bn)
        have BN := Lib.hid (bstep BM.out bn)
        clear bn CM OM BM RC
        have PC := Lib.hid (put_cat M MOK.out wn.heap.size (some ⟨g', 0, none⟩) 15 cap' wn (by rw [MF.out]; exact ON.out.2.1) (by decide) (by rw [MF.out]; exact ON.out.reads) (Nat.le_refl _))
        unfold PutC at PC
        rw [Ct.putL_no (Ct.rt_no.1 MR.out)] at PC
        obtain ⟨k0, k1, k2, k3, k4, k5, k6, k7, k8⟩ := CN.out.cells
        go_wp2_with fail
        refine PC.out.mono ?_
        rintro e wo ⟨rfl, bo⟩
        have BO := Lib.hid (bstep BN.out bo)
        clear bo k0 k1 k2 k3 k4 k5 k6 k7 k8 CN ON BN PC
        have zr := zeroLf_run
        have eq1 := eqlLf_run Lf.zero_ok Lf.zero_ok
        rw [decide_eq_true (rfl : Lf.zero = Lf.zero)] at eq1
        have eg := lf_guard
        go_wp2_with fail
        refine (kruns_any wo).mono ?_
        rintro e wp ⟨rfl, bp⟩
        have BP := Lib.hid (bstep BO.out bp)
        clear bp BO zr eq1 eg
        go_wp2
        go_ret
        exact ⟨rfl, BP.out⟩
      · as_aux_lemma =>
        have CM : Hid (CtAt (w10.setCell ⟨g, 13, none⟩ (.int .i64 (65535 + (1 + n)))) b { edgeC 14 with files := edgeF3 ⟨4, 65535 + (1 + n), 65535, 512⟩ } (some ⟨g, 0, none⟩) 14 cap) := Lib.hid ((CtAt.keep (c := { edgeC 14 with files := edgeF3 ⟨4, 65535 + (1 + n), 65535, 512⟩ }) (show CtAt w10 b { edgeC 14 with files := edgeF3 ⟨4, 65535 + (1 + n), 65535, 512⟩ } (some ⟨g, 0, none⟩) 14 cap from C10.out) (keep_set (F := (· = g)) rfl) hbg))
        have OM : Hid (OwnF (w10.setCell ⟨g, 13, none⟩ (.int .i64 (65535 + (1 + n)))) w.heap.size (some ⟨g, 0, none⟩) 14 cap (edgeF3 ⟨4, 65535 + (1 + n), 65535, 512⟩)) := Lib.hid (OwnF.setK O10.out rfl (edgeF3_len _) (edgeF3_ok _ ⟨⟨by show (-9223372036854775808 : Int) ≤ 4; omega, by show 4 ≤ (9223372036854775807 : Int); omega⟩, ⟨by show (-9223372036854775808 : Int) ≤ 65535 + (1 + n); omega, by show 65535 + (1 + n) ≤ (9223372036854775807 : Int); omega⟩, ⟨by show (-9223372036854775808 : Int) ≤ 65535; omega, by show 65535 ≤ (9223372036854775807 : Int); omega⟩, ⟨by show (-9223372036854775808 : Int) ≤ 512; omega, by show 512 ≤ (9223372036854775807 : Int); omega⟩⟩))
        have BM : Hid (Below w.heap.size w (w10.setCell ⟨g, 13, none⟩ (.int .i64 (65535 + (1 + n))))) := Lib.hid ((keep_set (F := (· = g)) rfl).below (fun q hq => by rw [hq]; exact hgw) B10.out B10.out.size)
        obtain ⟨M, hM⟩ : ∃ M : Ct, M = { edgeC 14 with files := edgeF3 ⟨4, 65535 + (1 + n), 65535, 512⟩ } := ⟨_, rfl⟩
        have MR : Hid (M.rt = false) := Lib.hid (Ct.rt_no.2 (by rw [hM]; exact edgeF3_bad _ (fun r => by have q := r.f.2; have q : 65535 + (1 + n) ≤ 65535 := q; omega)))
        have MOK : Hid M.Ok := Lib.hid (by rw [hM]; exact ⟨(edgeC_ok 14).g, (edgeC_ok 14).s, (edgeC_ok 14).t, ⟨(edgeC_ok 14).k.a, (edgeC_ok 14).k.b, (edgeC_ok 14).k.c, (edgeC_ok 14).k.d⟩⟩)
        have MF : Hid (M.files = edgeF3 ⟨4, 65535 + (1 + n), 65535, 512⟩) := Lib.hid (by subst hM; rfl)
        rw [← hM] at CM
        clear hM
        go_upto_region 39 with fail
        obtain ⟨wm, hwm⟩ : ∃ wm, wm = (w10.setCell ⟨g, 13, none⟩ (.int .i64 (65535 + (1 + n)))) := ⟨_, rfl⟩
        rw [← hwm] at CM OM BM
        rw [← hwm]
        clear hwm c0 c1 c2 c3 c4 c5 c6x c7 c8 p0 q0 q1 q2 q3 fzb fzg C10 O10 B10
        have RC := Lib.hid (cat_any M MOK.out wm.heap.size (some ⟨g, 0, none⟩) 14 cap wm (by rw [MF.out]; exact OM.out.2.1) (by decide) (by rw [MF.out]; exact OM.out.reads) (Nat.le_refl _))
        rw [MR.out] at RC
        go_wp2_with (with_reducible refine load_ct rfl _ rfl b M (some ⟨g, 0, none⟩) 14 cap CM.out rfl ?_)
        refine RC.out.mono ?_
        rintro e wn ⟨rfl, bn⟩
        have CN := Lib.hid (CM.out.below bn)
        have ON := Lib.hid (OM.out.below bn)
        have BN := Lib.hid (bstep BM.out bn)
        clear bn CM OM BM RC
        have PC := Lib.hid (put_cat M MOK.out wn.heap.size (some ⟨g, 0, none⟩) 14 cap wn (by rw [MF.out]; exact ON.out.2.1) (by decide) (by rw [MF.out]; exact ON.out.reads) (Nat.le_refl _))
        unfold PutC at PC
        rw [Ct.putL_no (Ct.rt_no.1 MR.out)] at PC
        obtain ⟨k0, k1, k2, k3, k4, k5, k6, k7, k8⟩ := CN.out.cells
        go_wp2_with fail
        refine PC.out.mono ?_
        rintro e wo ⟨rfl, bo⟩
        have BO := Lib.hid (bstep BN.out bo)
        clear bo k0 k1 k2 k3 k4 k5 k6 k7 k8 CN ON BN PC
        have zr := zeroLf_run
        have eq1 := eqlLf_run Lf.zero_ok Lf.zero_ok
        rw [decide_eq_true (rfl : Lf.zero = Lf.zero)] at eq1
        have eg := lf_guard
        go_wp2_with fail
        refine (kruns_any wo).mono ?_
        rintro e wp ⟨rfl, bp⟩
        have BP := Lib.hid (bstep BO.out bp)
        clear bp BO zr eq1 eg
        go_wp2
        go_ret
        exact ⟨rfl, BP.out⟩
      · as_aux_lemma =>
        have CM : Hid (CtAt (w10.setCell ⟨g, 14, none⟩ (.int .i64 (65535 + (1 + n)))) b { edgeC 14 with files := edgeF3 ⟨4, 65535, 65535 + (1 + n), 512⟩ } (some ⟨g, 0, none⟩) 14 cap) := Lib.hid ((CtAt.keep (c := { edgeC 14 with files := edgeF3 ⟨4, 65535, 65535 + (1 + n), 512⟩ }) (show CtAt w10 b { edgeC 14 with files := edgeF3 ⟨4, 65535, 65535 + (1 + n), 512⟩ } (some ⟨g, 0, none⟩) 14 cap from C10.out) (keep_set (F := (· = g)) rfl) hbg))
        have OM : Hid (OwnF (w10.setCell ⟨g, 14, none⟩ (.int .i64 (65535 + (1 + n)))) w.heap.size (some ⟨g, 0, none⟩) 14 cap (edgeF3 ⟨4, 65535, 65535 + (1 + n), 512⟩)) := Lib.hid (OwnF.setK O10.out rfl (edgeF3_len _) (edgeF3_ok _ ⟨⟨by show (-9223372036854775808 : Int) ≤ 4; omega, by show 4 ≤ (9223372036854775807 : Int); omega⟩, ⟨by show (-9223372036854775808 : Int) ≤ 65535; omega, by show 65535 ≤ (9223372036854775807 : Int); omega⟩, ⟨by show (-9223372036854775808 : Int) ≤ 65535 + (1 + n); omega, by show 65535 + (1 + n) ≤ (9223372036854775807 : Int); omega⟩, ⟨by show (-9223372036854775808 : Int) ≤ 512; omega, by show 512 ≤ (9223372036854775807 : Int); omega⟩⟩))
        have BM : Hid (Below w.heap.size w (w10.setCell ⟨g, 14, none⟩ (.int .i64 (65535 + (1 + n))))) := Lib.hid ((keep_set (F := (· = g)) rfl).below (fun q hq => by rw [hq]; exact hgw) B10.out B10.out.size)
        obtain ⟨M, hM⟩ : ∃ M : Ct, M = { edgeC 14 with files := edgeF3 ⟨4, 65535, 65535 + (1 + n), 512⟩ } := ⟨_, rfl⟩
        have MR : Hid (M.rt = false) := Lib.hid (Ct.rt_no.2 (by rw [hM]; exact edgeF3_bad _ (fun r => by have q := r.x.2; have q : 65535 + (1 + n) ≤ 65535 := q; omega)))
        have MOK : Hid M.Ok := Lib.hid (by rw [hM]; exact ⟨(edgeC_ok 14).g, (edgeC_ok 14).s, (edgeC_ok 14).t, ⟨(edgeC_ok 14).k.a, (edgeC_ok 14).k.b, (edgeC_ok 14).k.c, (edgeC_ok 14).k.d⟩⟩)
        have MF : Hid (M.files = edgeF3 ⟨4, 65535, 65535 + (1 + n), 512⟩) := Lib.hid (by subst hM; rfl)
        rw [← hM] at CM
        clear hM
        go_upto_region 39 with fail
        obtain ⟨wm, hwm⟩ : ∃ wm, wm = (w10.setCell ⟨g, 14, none⟩ (.int .i64 (65535 + (1 + n)))) := ⟨_, rfl⟩
        rw [← hwm] at CM OM BM
        rw [← hwm]
        clear hwm c0 c1 c2 c3 c4 c5 c6x c7 c8 p0 q0 q1 q2 q3 fzb fzg C10 O10 B10
        have RC := Lib.hid (cat_any M MOK.out wm.heap.size (some ⟨g, 0, none⟩) 14 cap wm (by rw [MF.out]; exact OM.out.2.1) (by decide) (by rw [MF.out]; exact OM.out.reads) (Nat.le_refl _))
        rw [MR.out] at RC
        go_wp2_with (with_reducible refine load_ct rfl _ rfl b M (some ⟨g, 0, none⟩) 14 cap CM.out rfl ?_)
        refine RC.out.mono ?_
        rintro e wn ⟨rfl, bn⟩
        have CN := Lib.hid (CM.out.below bn)
        have ON := Lib.hid (OM.out.below bn)
        have BN := Lib.hid (bstep BM.out bn)
        clear bn CM OM BM RC
        have PC := Lib.hid (put_cat M MOK.out wn.heap.size (some ⟨g, 0, none⟩) 14 cap wn (by rw [MF.out]; exact ON.out.2.1) (by decide) (by rw [MF.out]; exact ON.out.reads) (Nat.le_refl _))
        unfold PutC at PC
        rw [Ct.putL_no (Ct.rt_no.1 MR.out)] at PC
        obtain ⟨k0, k1, k2, k3, k4, k5, k6, k7, k8⟩ := CN.out.cells
        go_wp2_with fail
        refine PC.out.mono ?_
        rintro e wo ⟨rfl, bo⟩
        have BO := Lib.hid (bstep BN.out bo)
        clear bo k0 k1 k2 k3 k4 k5 k6 k7 k8 CN ON BN PC
        have zr := zeroLf_run
        have eq1 := eqlLf_run Lf.zero_ok Lf.zero_ok
        rw [decide_eq_true (rfl : Lf.zero = Lf.zero)] at eq1
        have eg := lf_guard
        go_wp2_with fail
        refine (kruns_any wo).mono ?_
        rintro e wp ⟨rfl, bp⟩
        have BP := Lib.hid (bstep BO.out bp)
        clear bp BO zr eq1 eg
        go_wp2
        go_ret
        exact ⟨rfl, BP.out⟩
      · as_aux_lemma =>
        have CM : Hid (CtAt (w10.setCell ⟨g, 15, none⟩ (.int .i64 (512 + (1 + n)))) b { edgeC 14 with files := edgeF3 ⟨4, 65535, 65535, 512 + (1 + n)⟩ } (some ⟨g, 0, none⟩) 14 cap) := Lib.hid ((CtAt.keep (c := { edgeC 14 with files := edgeF3 ⟨4, 65535, 65535, 512 + (1 + n)⟩ }) (show CtAt w10 b { edgeC 14 with files := edgeF3 ⟨4, 65535, 65535, 512 + (1 + n)⟩ } (some ⟨g, 0, none⟩) 14 cap from C10.out) (keep_set (F := (· = g)) rfl) hbg))
        have OM : Hid (OwnF (w10.setCell ⟨g, 15, none⟩ (.int .i64 (512 + (1 + n)))) w.heap.size (some ⟨g, 0, none⟩) 14 cap (edgeF3 ⟨4, 65535, 65535, 512 + (1 + n)⟩)) := Lib.hid (OwnF.setK O10.out rfl (edgeF3_len _) (edgeF3_ok _ ⟨⟨by show (-9223372036854775808 : Int) ≤ 4; omega, by show 4 ≤ (9223372036854775807 : Int); omega⟩, ⟨by show (-9223372036854775808 : Int) ≤ 65535; omega, by show 65535 ≤ (9223372036854775807 : Int); omega⟩, ⟨by show (-9223372036854775808 : Int) ≤ 65535; omega, by show 65535 ≤ (9223372036854775807 : Int); omega⟩, ⟨by show (-9223372036854775808 : Int) ≤ 512 + (1 + n); omega, by show 512 + (1 + n) ≤ (9223372036854775807 : Int); omega⟩⟩))
        have BM : Hid (Below w.heap.size w (w10.setCell ⟨g, 15, none⟩ (.int .i64 (512 + (1 + n))))) := Lib.hid ((keep_set (F := (· = g)) rfl).below (fun q hq => by rw [hq]; exact hgw) B10.out B10.out.size)
        obtain ⟨M, hM⟩ : ∃ M : Ct, M = { edgeC 14 with files := edgeF3 ⟨4, 65535, 65535, 512 + (1 + n)⟩ } := ⟨_, rfl⟩
        have MR : Hid (M.rt = false) := Lib.hid (Ct.rt_no.2 (by rw [hM]; exact edgeF3_bad _ (fun r => by have q := r.b.2; have q : 512 + (1 + n) ≤ 512 := q; omega)))
        have MOK : Hid M.Ok := Lib.hid (by rw [hM]; exact ⟨(edgeC_ok 14).g, (edgeC_ok 14).s, (edgeC_ok 14).t, ⟨(edgeC_ok 14).k.a, (edgeC_ok 14).k.b, (edgeC_ok 14).k.c, (edgeC_ok 14).k.d⟩⟩)
        have MF : Hid (M.files = edgeF3 ⟨4, 65535, 65535, 512 + (1 + n)⟩) := Lib.hid (by subst hM; rfl)
        rw [← hM] at CM
        clear hM
        go_upto_region 39 with fail
        obtain ⟨wm, hwm⟩ : ∃ wm, wm = (w10.setCell ⟨g, 15, none⟩ (.int .i64 (512 + (1 + n)))) := ⟨_, rfl⟩
        rw [← hwm] at CM OM BM
        rw [← hwm]
        clear hwm c0 c1 c2 c3 c4 c5 c6x c7 c8 p0 q0 q1 q2 q3 fzb fzg C10 O10 B10
        have RC := Lib.hid (cat_any M MOK.out wm.heap.size (some ⟨g, 0, none⟩) 14 cap wm (by rw [MF.out]; exact OM.out.2.1) (by decide) (by rw [MF.out]; exact OM.out.reads) (Nat.le_refl _))
        rw [MR.out] at RC
        go_wp2_with (with_reducible refine load_ct rfl _ rfl b M (some ⟨g, 0, none⟩) 14 cap CM.out rfl ?_)
        refine RC.out.mono ?_
        rintro e wn ⟨rfl, bn⟩
        have CN := Lib.hid (CM.out.below bn)
        have ON := Lib.hid (OM.out.below bn)
        have BN := Lib.hid (bstep BM.out bn)
        clear bn CM OM BM RC
        have PC := Lib.hid (put_cat M MOK.out wn.heap.size (some ⟨g, 0, none⟩) 14 cap wn (by rw [MF.out]; exact ON.out.2.1) (by decide) (by rw [MF.out]; exact ON.out.reads) (Nat.le_refl _))
        unfold PutC at PC
        rw [Ct.putL_no (Ct.rt_no.1 MR.out)] at PC
        obtain ⟨k0, k1, k2, k3, k4, k5, k6, k7, k8⟩ := CN.out.cells
        go_wp2_with fail
        refine PC.out.mono ?_
        rintro e wo ⟨rfl, bo⟩
        have BO := Lib.hid (bstep BN.out bo)
        clear bo k0 k1 k2 k3 k4 k5 k6 k7 k8 CN ON BN PC
        have zr := zeroLf_run
        have eq1 := eqlLf_run Lf.zero_ok Lf.zero_ok
        rw [decide_eq_true (rfl : Lf.zero = Lf.zero)] at eq1
        have eg := lf_guard
        go_wp2_with fail
        refine (kruns_any wo).mono ?_
        rintro e wp ⟨rfl, bp⟩
        have BP := Lib.hid (bstep BO.out bp)
        clear bp BO zr eq1 eg
        go_wp2
        go_ret
        exact ⟨rfl, BP.out⟩
      · as_aux_lemma =>
        have CM : Hid (CtAt (w10.setCell ⟨g, 14, none⟩ (.int .i64 0)) b { edgeC 14 with files := edgeF3 ⟨4, 65535, 0, 512⟩ } (some ⟨g, 0, none⟩) 14 cap) := Lib.hid ((CtAt.keep (c := { edgeC 14 with files := edgeF3 ⟨4, 65535, 0, 512⟩ }) (show CtAt w10 b { edgeC 14 with files := edgeF3 ⟨4, 65535, 0, 512⟩ } (some ⟨g, 0, none⟩) 14 cap from C10.out) (keep_set (F := (· = g)) rfl) hbg))
        have OM : Hid (OwnF (w10.setCell ⟨g, 14, none⟩ (.int .i64 0)) w.heap.size (some ⟨g, 0, none⟩) 14 cap (edgeF3 ⟨4, 65535, 0, 512⟩)) := Lib.hid (OwnF.setK O10.out rfl (edgeF3_len _) (edgeF3_ok _ ⟨⟨by show (-9223372036854775808 : Int) ≤ 4; omega, by show 4 ≤ (9223372036854775807 : Int); omega⟩, ⟨by show (-9223372036854775808 : Int) ≤ 65535; omega, by show 65535 ≤ (9223372036854775807 : Int); omega⟩, ⟨by show (-9223372036854775808 : Int) ≤ 0; omega, by show 0 ≤ (9223372036854775807 : Int); omega⟩, ⟨by show (-9223372036854775808 : Int) ≤ 512; omega, by show 512 ≤ (9223372036854775807 : Int); omega⟩⟩))
        have BM : Hid (Below w.heap.size w (w10.setCell ⟨g, 14, none⟩ (.int .i64 0))) := Lib.hid ((keep_set (F := (· = g)) rfl).below (fun q hq => by rw [hq]; exact hgw) B10.out B10.out.size)
        obtain ⟨M, hM⟩ : ∃ M : Ct, M = { edgeC 14 with files := edgeF3 ⟨4, 65535, 0, 512⟩ } := ⟨_, rfl⟩
        have MR : Hid (M.rt = false) := Lib.hid (Ct.rt_no.2 (by rw [hM]; exact edgeF3_bad _ (fun r => by have q := r.z.2 rfl; have q : (512 : Int) = 0 := q; omega)))
        have MOK : Hid M.Ok := Lib.hid (by rw [hM]; exact ⟨(edgeC_ok 14).g, (edgeC_ok 14).s, (edgeC_ok 14).t, ⟨(edgeC_ok 14).k.a, (edgeC_ok 14).k.b, (edgeC_ok 14).k.c, (edgeC_ok 14).k.d⟩⟩)
        have MF : Hid (M.files = edgeF3 ⟨4, 65535, 0, 512⟩) := Lib.hid (by subst hM; rfl)
        rw [← hM] at CM
        clear hM
        go_upto_region 39 with fail
        obtain ⟨wm, hwm⟩ : ∃ wm, wm = (w10.setCell ⟨g, 14, none⟩ (.int .i64 0)) := ⟨_, rfl⟩
        rw [← hwm] at CM OM BM
        rw [← hwm]
        clear hwm c0 c1 c2 c3 c4 c5 c6x c7 c8 p0 q0 q1 q2 q3 fzb fzg C10 O10 B10
        have RC := Lib.hid (cat_any M MOK.out wm.heap.size (some ⟨g, 0, none⟩) 14 cap wm (by rw [MF.out]; exact OM.out.2.1) (by decide) (by rw [MF.out]; exact OM.out.reads) (Nat.le_refl _))
        rw [MR.out] at RC
        go_wp2_with (with_reducible refine load_ct rfl _ rfl b M (some ⟨g, 0, none⟩) 14 cap CM.out rfl ?_)
        refine RC.out.mono ?_
        rintro e wn ⟨rfl, bn⟩
        have CN := Lib.hid (CM.out.below bn)
        have ON := Lib.hid (OM.out.below bn)
        have BN := Lib.hid (bstep BM.out bn)
        clear bn CM OM BM RC
        have PC := Lib.hid (put_cat M MOK.out wn.heap.size (some ⟨g, 0, none⟩) 14 cap wn (by rw [MF.out]; exact ON.out.2.1) (by decide) (by rw [MF.out]; exact ON.out.reads) (Nat.le_refl _))
        unfold PutC at PC
        rw [Ct.putL_no (Ct.rt_no.1 MR.out)] at PC
        obtain ⟨k0, k1, k2, k3, k4, k5, k6, k7, k8⟩ := CN.out.cells
        go_wp2_with fail
        refine PC.out.mono ?_
        rintro e wo ⟨rfl, bo⟩
        have BO := Lib.hid (bstep BN.out bo)
        clear bo k0 k1 k2 k3 k4 k5 k6 k7 k8 CN ON BN PC
        have zr := zeroLf_run
        have eq1 := eqlLf_run Lf.zero_ok Lf.zero_ok
        rw [decide_eq_true (rfl : Lf.zero = Lf.zero)] at eq1
        have eg := lf_guard
        go_wp2_with fail
        refine (kruns_any wo).mono ?_
        rintro e wp ⟨rfl, bp⟩
        have BP := Lib.hid (bstep BO.out bp)
        clear bp BO zr eq1 eg
        go_wp2
        go_ret
        exact ⟨rfl, BP.out⟩
      · as_aux_lemma =>
        have CM : Hid (CtAt (w10.setCell ⟨g, 15, none⟩ (.int .i64 0)) b { edgeC 14 with files := edgeF3 ⟨4, 65535, 65535, 0⟩ } (some ⟨g, 0, none⟩) 14 cap) := Lib.hid ((CtAt.keep (c := { edgeC 14 with files := edgeF3 ⟨4, 65535, 65535, 0⟩ }) (show CtAt w10 b { edgeC 14 with files := edgeF3 ⟨4, 65535, 65535, 0⟩ } (some ⟨g, 0, none⟩) 14 cap from C10.out) (keep_set (F := (· = g)) rfl) hbg))
        have OM : Hid (OwnF (w10.setCell ⟨g, 15, none⟩ (.int .i64 0)) w.heap.size (some ⟨g, 0, none⟩) 14 cap (edgeF3 ⟨4, 65535, 65535, 0⟩)) := Lib.hid (OwnF.setK O10.out rfl (edgeF3_len _) (edgeF3_ok _ ⟨⟨by show (-9223372036854775808 : Int) ≤ 4; omega, by show 4 ≤ (9223372036854775807 : Int); omega⟩, ⟨by show (-9223372036854775808 : Int) ≤ 65535; omega, by show 65535 ≤ (9223372036854775807 : Int); omega⟩, ⟨by show (-9223372036854775808 : Int) ≤ 65535; omega, by show 65535 ≤ (9223372036854775807 : Int); omega⟩, ⟨by show (-9223372036854775808 : Int) ≤ 0; omega, by show 0 ≤ (9223372036854775807 : Int); omega⟩⟩))
        have BM : Hid (Below w.heap.size w (w10.setCell ⟨g, 15, none⟩ (.int .i64 0))) := Lib.hid ((keep_set (F := (· = g)) rfl).below (fun q hq => by rw [hq]; exact hgw) B10.out B10.out.size)
        obtain ⟨M, hM⟩ : ∃ M : Ct, M = { edgeC 14 with files := edgeF3 ⟨4, 65535, 65535, 0⟩ } := ⟨_, rfl⟩
        have MR : Hid (M.rt = false) := Lib.hid (Ct.rt_no.2 (by rw [hM]; exact edgeF3_bad _ (fun r => by have q := r.z.1 rfl; have q : (65535 : Int) = 0 := q; omega)))
        have MOK : Hid M.Ok := Lib.hid (by rw [hM]; exact ⟨(edgeC_ok 14).g, (edgeC_ok 14).s, (edgeC_ok 14).t, ⟨(edgeC_ok 14).k.a, (edgeC_ok 14).k.b, (edgeC_ok 14).k.c, (edgeC_ok 14).k.d⟩⟩)
        have MF : Hid (M.files = edgeF3 ⟨4, 65535, 65535, 0⟩) := Lib.hid (by subst hM; rfl)
        rw [← hM] at CM
        clear hM
        go_upto_region 39 with fail
        obtain ⟨wm, hwm⟩ : ∃ wm, wm = (w10.setCell ⟨g, 15, none⟩ (.int .i64 0)) := ⟨_, rfl⟩
        rw [← hwm] at CM OM BM
        rw [← hwm]
        clear hwm c0 c1 c2 c3 c4 c5 c6x c7 c8 p0 q0 q1 q2 q3 fzb fzg C10 O10 B10
        have RC := Lib.hid (cat_any M MOK.out wm.heap.size (some ⟨g, 0, none⟩) 14 cap wm (by rw [MF.out]; exact OM.out.2.1) (by decide) (by rw [MF.out]; exact OM.out.reads) (Nat.le_refl _))
        rw [MR.out] at RC
        go_wp2_with (with_reducible refine load_ct rfl _ rfl b M (some ⟨g, 0, none⟩) 14 cap CM.out rfl ?_)
        refine RC.out.mono ?_
        rintro e wn ⟨rfl, bn⟩
        have CN := Lib.hid (CM.out.below bn)
        have ON := Lib.hid (OM.out.below bn)
        have BN := Lib.hid (bstep BM.out bn)
        clear bn CM OM BM RC
        have PC := Lib.hid (put_cat M MOK.out wn.heap.size (some ⟨g, 0, none⟩) 14 cap wn (by rw [MF.out]; exact ON.out.2.1) (by decide) (by rw [MF.out]; exact ON.out.reads) (Nat.le_refl _))
        unfold PutC at PC
        rw [Ct.putL_no (Ct.rt_no.1 MR.out)] at PC
        obtain ⟨k0, k1, k2, k3, k4, k5, k6, k7, k8⟩ := CN.out.cells
        go_wp2_with fail
        refine PC.out.mono ?_
        rintro e wo ⟨rfl, bo⟩
        have BO := Lib.hid (bstep BN.out bo)
        clear bo k0 k1 k2 k3 k4 k5 k6 k7 k8 CN ON BN PC
        have zr := zeroLf_run
        have eq1 := eqlLf_run Lf.zero_ok Lf.zero_ok
        rw [decide_eq_true (rfl : Lf.zero = Lf.zero)] at eq1
        have eg := lf_guard
        go_wp2_with fail
        refine (kruns_any wo).mono ?_
        rintro e wp ⟨rfl, bp⟩
        have BP := Lib.hid (bstep BO.out bp)
        clear bp BO zr eq1 eg
        go_wp2
        go_ret
        exact ⟨rfl, BP.out⟩
      · as_aux_lemma =>
        have CM : Hid (CtAt ((w10.setCell ⟨g, 12, none⟩ (.int .i64 3)).drew) b { edgeC 14 with files := edgeF3 ⟨3, 65535, 65535, 512⟩ } (some ⟨g, 0, none⟩) 14 cap) := Lib.hid (((CtAt.keep (c := { edgeC 14 with files := edgeF3 ⟨3, 65535, 65535, 512⟩ }) (show CtAt w10 b { edgeC 14 with files := edgeF3 ⟨3, 65535, 65535, 512⟩ } (some ⟨g, 0, none⟩) 14 cap from C10.out) (keep_set (F := (· = g)) rfl) hbg)).below (Below.refl _ _).drew)
        have OM : Hid (OwnF ((w10.setCell ⟨g, 12, none⟩ (.int .i64 3)).drew) w.heap.size (some ⟨g, 0, none⟩) 14 cap (edgeF3 ⟨3, 65535, 65535, 512⟩)) := Lib.hid ((OwnF.setK O10.out rfl (edgeF3_len _) (edgeF3_ok _ ⟨⟨by show (-9223372036854775808 : Int) ≤ 3; omega, by show 3 ≤ (9223372036854775807 : Int); omega⟩, ⟨by show (-9223372036854775808 : Int) ≤ 65535; omega, by show 65535 ≤ (9223372036854775807 : Int); omega⟩, ⟨by show (-9223372036854775808 : Int) ≤ 65535; omega, by show 65535 ≤ (9223372036854775807 : Int); omega⟩, ⟨by show (-9223372036854775808 : Int) ≤ 512; omega, by show 512 ≤ (9223372036854775807 : Int); omega⟩⟩)).drew)
        have BM : Hid (Below w.heap.size w ((w10.setCell ⟨g, 12, none⟩ (.int .i64 3)).drew)) := Lib.hid (((keep_set (F := (· = g)) rfl).below (fun q hq => by rw [hq]; exact hgw) B10.out B10.out.size).drew)
        obtain ⟨M, hM⟩ : ∃ M : Ct, M = { edgeC 14 with files := edgeF3 ⟨3, 65535, 65535, 512⟩ } := ⟨_, rfl⟩
        have MR : Hid (M.rt = false) := Lib.hid (Ct.rt_no.2 (by rw [hM]; exact fun r => by have q := r.r 2 (by show 3 < (edgeF3 _).length; rw [edgeF3_len]; decide); have q : (3 : Int) < 3 := q; omega))
        have MOK : Hid M.Ok := Lib.hid (by rw [hM]; exact ⟨(edgeC_ok 14).g, (edgeC_ok 14).s, (edgeC_ok 14).t, ⟨(edgeC_ok 14).k.a, (edgeC_ok 14).k.b, (edgeC_ok 14).k.c, (edgeC_ok 14).k.d⟩⟩)
        have MF : Hid (M.files = edgeF3 ⟨3, 65535, 65535, 512⟩) := Lib.hid (by subst hM; rfl)
        rw [← hM] at CM
        clear hM
        go_upto_region 36 with fail
        go_region
        go_upto_region 39 with fail
        obtain ⟨wm, hwm⟩ : ∃ wm, wm = ((w10.setCell ⟨g, 12, none⟩ (.int .i64 3)).drew) := ⟨_, rfl⟩
        rw [← hwm] at CM OM BM
        rw [← hwm]
        clear hwm c0 c1 c2 c3 c4 c5 c6x c7 c8 p0 q0 q1 q2 q3 fzb fzg C10 O10 B10
        have RC := Lib.hid (cat_any M MOK.out wm.heap.size (some ⟨g, 0, none⟩) 14 cap wm (by rw [MF.out]; exact OM.out.2.1) (by decide) (by rw [MF.out]; exact OM.out.reads) (Nat.le_refl _))
        rw [MR.out] at RC
        go_wp2_with (with_reducible refine load_ct rfl _ rfl b M (some ⟨g, 0, none⟩) 14 cap CM.out rfl ?_)
        refine RC.out.mono ?_
        rintro e wn ⟨rfl, bn⟩
        have CN := Lib.hid (CM.out.below bn)
        have ON := Lib.hid (OM.out.below bn)
        have BN := Lib.hid (bstep BM.out bn)
        clear bn CM OM BM RC
        have PC := Lib.hid (put_cat M MOK.out wn.heap.size (some ⟨g, 0, none⟩) 14 cap wn (by rw [MF.out]; exact ON.out.2.1) (by decide) (by rw [MF.out]; exact ON.out.reads) (Nat.le_refl _))
        unfold PutC at PC
        rw [Ct.putL_no (Ct.rt_no.1 MR.out)] at PC
        obtain ⟨k0, k1, k2, k3, k4, k5, k6, k7, k8⟩ := CN.out.cells
        go_wp2_with fail
        refine PC.out.mono ?_
        rintro e wo ⟨rfl, bo⟩
        have BO := Lib.hid (bstep BN.out bo)
        clear bo k0 k1 k2 k3 k4 k5 k6 k7 k8 CN ON BN PC
        have zr := zeroLf_run
        have eq1 := eqlLf_run Lf.zero_ok Lf.zero_ok
        rw [decide_eq_true (rfl : Lf.zero = Lf.zero)] at eq1
        have eg := lf_guard
        go_wp2_with fail
        refine (kruns_any wo).mono ?_
        rintro e wp ⟨rfl, bp⟩
        have BP := Lib.hid (bstep BO.out bp)
        clear bp BO zr eq1 eg
        go_wp2
        go_ret
        exact ⟨rfl, BP.out⟩
      · as_aux_lemma =>
        have CM : Hid (CtAt (w10.setCell ⟨b, 2, none⟩ (.int .i64 3)) b { edgeC 14 with status := 3 } (some ⟨g, 0, none⟩) 14 cap) := Lib.hid (CtAt.setI C10.out rfl)
        have OM : Hid (OwnF (w10.setCell ⟨b, 2, none⟩ (.int .i64 3)) w.heap.size (some ⟨g, 0, none⟩) 14 cap (edgeF 14)) := Lib.hid (O10.out.other (fun a ha e => hbg (by injection ha with ha; subst ha; exact e.symm)) _)
        have BM : Hid (Below w.heap.size w (w10.setCell ⟨b, 2, none⟩ (.int .i64 3))) := Lib.hid ((keep_set (F := (· = b)) rfl).below (fun q hq => by rw [hq]; exact hbw) B10.out B10.out.size)
        obtain ⟨M, hM⟩ : ∃ M : Ct, M = { edgeC 14 with status := 3 } := ⟨_, rfl⟩
        have MR : Hid (M.rt = false) := Lib.hid (Ct.rt_no.2 (by rw [hM]; exact fun r => by have q := r.e rfl; have q : (3 : Int) = 0 := q; omega))
        have MOK : Hid M.Ok := Lib.hid (by rw [hM]; exact ⟨(edgeC_ok 14).g, (edgeC_ok 14).s, ⟨by show (-9223372036854775808 : Int) ≤ (3 : Int); omega, by show (3 : Int) ≤ (9223372036854775807 : Int); omega⟩, ⟨(edgeC_ok 14).k.a, (edgeC_ok 14).k.b, (edgeC_ok 14).k.c, (edgeC_ok 14).k.d⟩⟩)
        have MF : Hid (M.files = edgeF 14) := Lib.hid (by subst hM; rfl)
        rw [← hM] at CM
        clear hM
        go_upto_region 39 with fail
        obtain ⟨wm, hwm⟩ : ∃ wm, wm = (w10.setCell ⟨b, 2, none⟩ (.int .i64 3)) := ⟨_, rfl⟩
        rw [← hwm] at CM OM BM
        rw [← hwm]
        clear hwm c0 c1 c2 c3 c4 c5 c6x c7 c8 p0 q0 q1 q2 q3 fzb fzg C10 O10 B10
        have RC := Lib.hid (cat_any M MOK.out wm.heap.size (some ⟨g, 0, none⟩) 14 cap wm (by rw [MF.out]; exact OM.out.2.1) (by decide) (by rw [MF.out]; exact OM.out.reads) (Nat.le_refl _))
        rw [MR.out] at RC
        go_wp2_with (with_reducible refine load_ct rfl _ rfl b M (some ⟨g, 0, none⟩) 14 cap CM.out rfl ?_)
        refine RC.out.mono ?_
        rintro e wn ⟨rfl, bn⟩
        have CN := Lib.hid (CM.out.below bn)
        have ON := Lib.hid (OM.out.below bn)
        have BN := Lib.hid (bstep BM.out bn)
        clear bn CM OM BM RC
        have PC := Lib.hid (put_cat M MOK.out wn.heap.size (some ⟨g, 0, none⟩) 14 cap wn (by rw [MF.out]; exact ON.out.2.1) (by decide) (by rw [MF.out]; exact ON.out.reads) (Nat.le_refl _))
        unfold PutC at PC
        rw [Ct.putL_no (Ct.rt_no.1 MR.out)] at PC
        obtain ⟨k0, k1, k2, k3, k4, k5, k6, k7, k8⟩ := CN.out.cells
        go_wp2_with fail
        refine PC.out.mono ?_
        rintro e wo ⟨rfl, bo⟩
        have BO := Lib.hid (bstep BN.out bo)
        clear bo k0 k1 k2 k3 k4 k5 k6 k7 k8 CN ON BN PC
        have zr := zeroLf_run
        have eq1 := eqlLf_run Lf.zero_ok Lf.zero_ok
        rw [decide_eq_true (rfl : Lf.zero = Lf.zero)] at eq1
        have eg := lf_guard
        go_wp2_with fail
        refine (kruns_any wo).mono ?_
        rintro e wp ⟨rfl, bp⟩
        have BP := Lib.hid (bstep BO.out bp)
        clear bp BO zr eq1 eg
        go_wp2
        go_ret
        exact ⟨rfl, BP.out⟩
      · as_aux_lemma =>
        have CM : Hid (CtAt (w10.setCell ⟨b, 4, none⟩ (.int .i64 (1073741824 + (1 + n)))) b { edgeC 14 with card := { (edgeC 14).card with frm := 1073741824 + (1 + n) } } (some ⟨g, 0, none⟩) 14 cap) := Lib.hid (CtAt.setI C10.out rfl)
        have OM : Hid (OwnF (w10.setCell ⟨b, 4, none⟩ (.int .i64 (1073741824 + (1 + n)))) w.heap.size (some ⟨g, 0, none⟩) 14 cap (edgeF 14)) := Lib.hid (O10.out.other (fun a ha e => hbg (by injection ha with ha; subst ha; exact e.symm)) _)
        have BM : Hid (Below w.heap.size w (w10.setCell ⟨b, 4, none⟩ (.int .i64 (1073741824 + (1 + n))))) := Lib.hid ((keep_set (F := (· = b)) rfl).below (fun q hq => by rw [hq]; exact hbw) B10.out B10.out.size)
        obtain ⟨M, hM⟩ : ∃ M : Ct, M = { edgeC 14 with card := { (edgeC 14).card with frm := 1073741824 + (1 + n) } } := ⟨_, rfl⟩
        have MR : Hid (M.rt = false) := Lib.hid (Ct.rt_no.2 (by rw [hM]; exact card_bad (by show (64 : Int) ≠ 0; omega) (fun q => by have q := q.b; have q : 1073741824 + (1 + n) ≤ 1073741824 := q; omega)))
        have MOK : Hid M.Ok := Lib.hid (by rw [hM]; exact ⟨(edgeC_ok 14).g, (edgeC_ok 14).s, (edgeC_ok 14).t, ⟨⟨by show (-9223372036854775808 : Int) ≤ 1073741824 + (1 + n); omega, by show 1073741824 + (1 + n) ≤ (9223372036854775807 : Int); omega⟩, (edgeC_ok 14).k.b, (edgeC_ok 14).k.c, (edgeC_ok 14).k.d⟩⟩)
        have MF : Hid (M.files = edgeF 14) := Lib.hid (by subst hM; rfl)
        rw [← hM] at CM
        clear hM
        go_upto_region 39 with fail
        obtain ⟨wm, hwm⟩ : ∃ wm, wm = (w10.setCell ⟨b, 4, none⟩ (.int .i64 (1073741824 + (1 + n)))) := ⟨_, rfl⟩
        rw [← hwm] at CM OM BM
        rw [← hwm]
        clear hwm c0 c1 c2 c3 c4 c5 c6x c7 c8 p0 q0 q1 q2 q3 fzb fzg C10 O10 B10
        have RC := Lib.hid (cat_any M MOK.out wm.heap.size (some ⟨g, 0, none⟩) 14 cap wm (by rw [MF.out]; exact OM.out.2.1) (by decide) (by rw [MF.out]; exact OM.out.reads) (Nat.le_refl _))
        rw [MR.out] at RC
        go_wp2_with (with_reducible refine load_ct rfl _ rfl b M (some ⟨g, 0, none⟩) 14 cap CM.out rfl ?_)
        refine RC.out.mono ?_
        rintro e wn ⟨rfl, bn⟩
        have CN := Lib.hid (CM.out.below bn)
        have ON := Lib.hid (OM.out.below bn)
        have BN := Lib.hid (bstep BM.out bn)
        clear bn CM OM BM RC
        have PC := Lib.hid (put_cat M MOK.out wn.heap.size (some ⟨g, 0, none⟩) 14 cap wn (by rw [MF.out]; exact ON.out.2.1) (by decide) (by rw [MF.out]; exact ON.out.reads) (Nat.le_refl _))
        unfold PutC at PC
        rw [Ct.putL_no (Ct.rt_no.1 MR.out)] at PC
        obtain ⟨k0, k1, k2, k3, k4, k5, k6, k7, k8⟩ := CN.out.cells
        go_wp2_with fail
        refine PC.out.mono ?_
        rintro e wo ⟨rfl, bo⟩
        have BO := Lib.hid (bstep BN.out bo)
        clear bo k0 k1 k2 k3 k4 k5 k6 k7 k8 CN ON BN PC
        have zr := zeroLf_run
        have eq1 := eqlLf_run Lf.zero_ok Lf.zero_ok
        rw [decide_eq_true (rfl : Lf.zero = Lf.zero)] at eq1
        have eg := lf_guard
        go_wp2_with fail
        refine (kruns_any wo).mono ?_
        rintro e wp ⟨rfl, bp⟩
        have BP := Lib.hid (bstep BO.out bp)
        clear bp BO zr eq1 eg
        go_wp2
        go_ret
        exact ⟨rfl, BP.out⟩
end Go.Proofs.Ytjiigbmfbmkhjaa
