/-
  DiskRuns, over the contracts of package disk.
-/
import Derived.Test.YtaehgpieichjkaaDFace
import Derived.Test.YtaehgpieichjkaaDFill
import Derived.Test.YtaehgpieichjkaaBSm
import Derived.Lib.SlBytesConst
namespace Go.Proofs.Ytaehgpieichjkaa
set_option linter.unusedVariables false
set_option linter.unusedSimpArgs false
open Go.RowKit

theorem u8_lit (x : Int) (h : (decide (0 ≤ x) && decide (x ≤ 255)) = true) : U8 x := by
  rw [Bool.and_eq_true, decide_eq_true_eq, decide_eq_true_eq] at h
  exact h
/-- A block of one byte, new in the law's memory. -/
theorem DkIn.filled {w0 w w' : World} {b : Nat} {s : Dk} {X : List Nat} {x : Int} {e : Ending} (h : DkIn w0 w b s X) (f : FillL w x e w') : DkIn w0 w' b s (w.heap.size :: X) :=
  h.push f.2.2 (Nat.le_refl _) f.2.1.lt.2
theorem DkTo.pop {w0 w w' : World} {b x : Nat} {s : Dk} {X : List Nat} (h : DkTo w0 w b s (x :: X) w') : DkTo w0 w b s X w' :=
  ⟨h.1.less (fun y hy => List.mem_cons_of_mem _ hy), fun y hy => h.2.1 y (List.mem_cons_of_mem _ hy), h.2.2⟩

/-- A byte written out in a call's list. -/
theorem DkIn.lit {w0 w : World} {b : Nat} {s : Dk} {X : List Nat} (h : DkIn w0 w b s X) (o : Obj) : DkIn w0 (w.alloc o) b s (w.heap.size :: X) :=
  h.push (Below.alloc (Below.refl _ _) (Nat.le_refl _) o) (Nat.le_refl _) (by simp)
theorem in_boot1 (w0 : World) (b : Nat) (s : Dk) (X : List Nat) (x : Int) (hx : U8 x) (t : TypeId) (m : Nat × Nat) (w : World) (h : DkIn w0 w b s X) (hw : s.wt.length ≤ 1000000) :
    Calls Try.prog 12 #[.pointer (some ⟨b, 0, none⟩), .slice (some ⟨w.heap.size, 0, none⟩) 1 1] (w.alloc (.cells #[.int .u8 x] t m)) fun e w' => e = .returned (.tuple #[]) ∧ DkTo w0 w b (s.boot [x]) X w' := by
  have hu : ∀ k, k < [x].length → U8 ([x].getD k 0) := fun k hk => by
    obtain rfl : k = 0 := by simp at hk; exact hk
    exact hx
  have hb := h.2.size
  obtain ⟨⟨F, hd, hF, hX⟩, _⟩ := id h
  refine (in_boot w0 b s (w.heap.size :: X) 1 1 _ _ [x] _ (h.lit _) rfl (by decide) (RdB.lit w #[.int .u8 x] t m [x] rfl hu) (by simp) (fun a ha _ => ?_) hw).mono ?_
  · injection ha with ha
    subst ha
    exact Or.inr (by simp)
  rintro e w' ⟨rfl, t'⟩
  refine ⟨rfl, t'.pop.1, fun y hy => ?_, (Below.alloc (Below.refl _ _) hb _).trans t'.2.2⟩
  rw [t'.pop.2.1 y hy, Below.heap_alloc _ _ _ (hX y hy).1]
theorem in_boot0 (w0 : World) (b : Nat) (s : Dk) (X : List Nat) (w : World) (h : DkIn w0 w b s X) (hw : s.wt.length ≤ 1000000) :
    Calls Try.prog 12 #[.pointer (some ⟨b, 0, none⟩), .slice none 0 0] w fun e w' => e = .returned (.tuple #[]) ∧ DkTo w0 w b (s.boot []) X w' :=
  in_boot w0 b s X 0 0 0 none [] w h rfl (by decide) (fun k hk => absurd hk (by simp)) (Nat.zero_le _) (fun a ha _ => by cases ha) hw

theorem Own.same {w w' : World} {base g cap : Nat} {xs : List Int} (ho : Own w base g cap xs) (h : w'.heap[g]? = w.heap[g]?) : Own w' base g cap xs := by
  refine ⟨⟨ho.1.1, ?_⟩, ho.2⟩
  rcases ho.1.2 with e | ⟨g', c', cur, e, h1, h2, h3⟩
  · exact Or.inl e
  · refine Or.inr ⟨g', c', cur, e, h1, ?_, h3⟩
    injection e with e
    injection e with e
    injection e with e
    subst e
    rw [h]
    exact h2
theorem DkTo.own {w0 w w' : World} {b base g cap : Nat} {s : Dk} {X : List Nat} {xs : List Int} (h : DkTo w0 w b s X w') (hg : g ∈ X) (ho : Own w base g cap xs) : Own w' base g cap xs := ho.same (h.2.1 g hg)

namespace DR
def s1 : Dk := (Dk.new 2).write 0 (fillB 9)
def s2 : Dk := s1.boot [0]
def s3 : Dk := s2.write 0 (fillB 9)
def s4 : Dk := s3.boot [2]
def s5 : Dk := s4.write 0 (fillB 9)
def s6 : Dk := s5.flush
def s7 : Dk := s6.boot []
theorem says0 : (Dk.new 2).says = 0 := rfl
theorem says5 : s5.says = 0 := rfl
theorem read2 : s2.read 0 = some (fillB 0) := rfl
theorem read4 : s4.read 0 = none := rfl
theorem read7 : s7.read 0 = some (fillB 9) := rfl
theorem wrote7 : s7.wrote = 3 := rfl
theorem len2 : s2.blk.length = 2 := rfl
theorem len4 : s4.blk.length = 2 := rfl
theorem len7 : s7.blk.length = 2 := rfl
end DR

set_option maxRecDepth 100000 in
set_option maxHeartbeats 1000000 in
theorem druns_any (w : World) : Calls Try.prog 3 #[] w fun e w' => e = .returned (.bool true) ∧ Below w.heap.size w w' := by
  have u9 : U8 9 := u8_lit 9 (by decide)
  have u0 : U8 0 := u8_lit 0 (by decide)
  have U9 := Lib.hid u9; have U0 := Lib.hid u0
  clear u9 u0
  go_enter Try.func3, Try.ntmps3
  go_wp2_with fail
  refine (in_new 2 (by decide) (by decide) w).mono ?_
  rintro e w1 ⟨b, rfl, k1⟩
  have K1 := Lib.hid k1
  clear k1
  go_wp2_with fail
  refine (fill_any 9 U9.out w1).mono ?_
  rintro e w2 f2
  have K2 := Lib.hid (K1.out.filled f2)
  obtain ⟨rfl, o2, _⟩ := f2
  have O2 := Lib.hid o2
  clear o2 K1
  go_wp2_with fail
  refine (in_write w b _ _ 0 128 _ _ w2 K2.out (by decide) (IsBlk.fill U9.out) _ O2.out (by simp) (by decide) (by decide)).mono ?_
  rintro e w3 ⟨rfl, t3⟩
  have K3 := Lib.hid t3.pop.1
  rw [DR.says0]
  clear t3 K2 O2
  go_wp2_with fail
  refine (in_boot1 w b DR.s1 [] 0 U0.out _ _ w3 K3.out (by decide)).mono ?_
  rintro e w4 ⟨rfl, t4⟩
  have K4 := Lib.hid t4.1
  clear t4 K3
  go_wp2_with fail
  refine (in_read w b DR.s2 [] 0 _ w4 K4.out (by decide) DR.read2 (by decide)).mono ?_
  rintro e w5 ⟨g, c, rfl, og, _, k5⟩
  have K5 := Lib.hid k5; have OG5 := Lib.hid og
  clear k5 K4 og
  go_wp2_with fail
  refine (fill_any 9 U9.out w5).mono ?_
  rintro e w6 f6
  have K6 := Lib.hid (K5.out.filled f6)
  have OG6 := Lib.hid (OG5.out.below f6.2.2)
  obtain ⟨rfl, o6, _⟩ := f6
  have O6 := Lib.hid o6
  clear o6 K5 OG5
  go_wp2_with fail
  refine (in_write w b DR.s2 _ 0 128 _ _ w6 K6.out (by decide) (IsBlk.fill U9.out) _ O6.out (by simp) (by decide) (by decide)).mono ?_
  rintro e w7 ⟨rfl, t7⟩
  have OG7 := Lib.hid (t7.own (by simp) OG6.out)
  have K7 := Lib.hid t7.pop.1
  clear t7 K6 O6 OG6
  go_wp2_with fail
  refine (in_boot1 w b DR.s3 [g] 2 (u8_lit 2 (by decide)) _ _ w7 K7.out (by decide)).mono ?_
  rintro e w8 ⟨rfl, t8⟩
  have OG8 := Lib.hid (t8.own (by simp) OG7.out)
  have K8 := Lib.hid t8.1
  clear t8 K7 OG7
  go_wp2_with fail
  refine (in_unread w b DR.s4 [g] 0 w8 K8.out (by decide) (by decide) (Or.inr (Or.inr DR.read4)) (by decide)).mono ?_
  rintro e w9 ⟨rfl, t9⟩
  have OG9 := Lib.hid (t9.own (by simp) OG8.out)
  have K9 := Lib.hid t9.1
  clear t9 K8 OG8
  go_wp2_with fail
  refine (fill_any 9 U9.out w9).mono ?_
  rintro e w10 f10
  have K10 := Lib.hid (K9.out.filled f10)
  have OG10 := Lib.hid (OG9.out.below f10.2.2)
  obtain ⟨rfl, o10, _⟩ := f10
  have O10 := Lib.hid o10
  clear o10 K9 OG9
  go_wp2_with fail
  refine (in_write w b DR.s4 _ 0 128 _ _ w10 K10.out (by decide) (IsBlk.fill U9.out) _ O10.out (by simp) (by decide) (by decide)).mono ?_
  rintro e w11 ⟨rfl, t11⟩
  have OG11 := Lib.hid (t11.own (by simp) OG10.out)
  have K11 := Lib.hid t11.pop.1
  clear t11 K10 O10 OG10
  go_wp2_with fail
  refine (in_flush w b DR.s5 [g] w11 K11.out (by decide)).mono ?_
  rintro e w12 ⟨rfl, t12⟩
  have OG12 := Lib.hid (t12.own (by simp) OG11.out)
  have K12 := Lib.hid t12.1
  rw [DR.says5]
  clear t12 K11 OG11
  go_wp2_with fail
  refine (in_boot0 w b DR.s6 [g] w12 K12.out (by decide)).mono ?_
  rintro e w13 ⟨rfl, t13⟩
  have OG13 := Lib.hid (t13.own (by simp) OG12.out)
  have K13 := Lib.hid t13.1
  clear t13 K12 OG12
  go_wp2_with fail
  refine (in_read w b DR.s7 [g] 0 _ w13 K13.out (by decide) DR.read7 (by decide)).mono ?_
  rintro e w14 ⟨g2, c2, rfl, oh, t14, k14⟩
  have OG14 := Lib.hid (t14.own (by simp) OG13.out)
  have OH14 := Lib.hid oh
  have K14 := Lib.hid k14
  clear t14 k14 oh OG13 K13
  go_wp2_with fail
  refine (fill_any 0 U0.out w14).mono ?_
  rintro e w15 f15
  have K15 := Lib.hid (K14.out.below f15.2.2)
  have OG15 := Lib.hid (OG14.out.below f15.2.2)
  have OH15 := Lib.hid (OH14.out.below f15.2.2)
  obtain ⟨rfl, o15, _⟩ := f15
  have O15 := Lib.hid o15
  clear o15 K14 OG14 OH14
  go_wp2_with fail
  refine (bsame_yes _ _ _ 128 c 128 (fillB 0) w15 (by decide) (fillB_length 0) OG15.out.reads O15.out.reads (Nat.le_refl _)).mono ?_
  rintro e w16 ⟨rfl, b16⟩
  have K16 := Lib.hid (K15.out.below b16)
  have OH16 := Lib.hid (OH15.out.below b16)
  clear b16 K15 OH15 OG15 O15
  go_wp2_with fail
  refine (fill_any 9 U9.out w16).mono ?_
  rintro e w17 f17
  have K17 := Lib.hid (K16.out.below f17.2.2)
  have OH17 := Lib.hid (OH16.out.below f17.2.2)
  obtain ⟨rfl, o17, _⟩ := f17
  have O17 := Lib.hid o17
  clear o17 K16 OH16
  go_wp2_with fail
  refine (bsame_yes _ _ _ 128 c2 128 (fillB 9) w17 (by decide) (fillB_length 9) OH17.out.reads O17.out.reads (Nat.le_refl _)).mono ?_
  rintro e w18 ⟨rfl, b18⟩
  have K18 := Lib.hid (K17.out.below b18)
  clear b18 K17 OH17 O17
  go_wp2_with fail
  refine (in_wrote w b DR.s7 _ w18 K18.out).mono ?_
  rintro e w19 ⟨rfl, t19⟩
  rw [DR.wrote7]
  have B19 := Lib.hid t19.1.2
  clear t19 K18
  go_wp2
  go_ret
  exact ⟨rfl, B19.out⟩
end Go.Proofs.Ytaehgpieichjkaa
