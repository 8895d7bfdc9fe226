/-
  The walk of the statement HeapOrder: two heaps beside each other.
-/
import Derived.Test.YtkgjbmlgbfejlaaHr
import Derived.Test.YtkgjbmlgbfejlaaBWithinI
import Derived.Test.YtkgjbmlgbfejlaaWSums
import Derived.Lib.MinMax
namespace Go.Proofs.Ytkgjbmlgbfejlaa
set_option linter.unusedVariables false
set_option linter.unusedSimpArgs false
set_option maxRecDepth 100000
open Go.RowKit

/-- Two heaps that share no block. -/
def Two (w0 w : World) (a b : Nat) (Ca Cb : List Int) : Prop := ∃ Ga Gb, HI.At w a 0 Ca Ga ∧ HI.At w b 0 Cb Gb ∧ (∀ q, q ∈ a :: Ga → ∀ r, r ∈ b :: Gb → q ≠ r) ∧ (∀ q, q ∈ a :: Ga → w0.heap.size ≤ q) ∧ (∀ q, q ∈ b :: Gb → w0.heap.size ≤ q) ∧ Below w0.heap.size w0 w
theorem Two.swap {w0 w : World} {a b : Nat} {Ca Cb : List Int} (h : Two w0 w a b Ca Cb) : Two w0 w b a Cb Ca := by
  obtain ⟨Ga, Gb, h1, h2, h3, h4, h5, h6⟩ := h
  exact ⟨Gb, Ga, h2, h1, fun q hq r hr e => h3 r hr q hq e.symm, h5, h4, h6⟩
theorem Two.bel {w0 w : World} {a b : Nat} {Ca Cb : List Int} (h : Two w0 w a b Ca Cb) : Below w0.heap.size w0 w := by
  obtain ⟨Ga, Gb, h1, h2, h3, h4, h5, h6⟩ := h; exact h6
theorem Two.older {w0 w w' : World} {a b : Nat} {Ca Cb : List Int} (h : Two w0 w a b Ca Cb) (k : Below w.heap.size w w') : Two w0 w' a b Ca Cb := by
  obtain ⟨Ga, Gb, h1, h2, h3, h4, h5, h6⟩ := h
  exact ⟨Ga, Gb, h1.below k, h2.below k, h3, h4, h5, bstep h6 k⟩
theorem Two.step {w0 w : World} {a b : Nat} {Ca Cb : List Int} (h : Two w0 w a b Ca Cb) : ∃ Ga, HI.At w a 0 Ca Ga ∧ ∀ w' Ca' Ga', HI.At w' a 0 Ca' Ga' → Fresh Ga' Ga w → Keep (· ∈ a :: Ga) w w' → Two w0 w' a b Ca' Cb := by
  obtain ⟨Ga, Gb, h1, h2, h3, h4, h5, h6⟩ := h
  have hb := h2.ne
  refine ⟨Ga, h1, fun w' Ca' Ga' q1 q2 q3 => ⟨Ga', Gb, q1, ?_, ?_, ?_, h5, q3.below h4 h6 h6.size⟩⟩
  · obtain ⟨A, n, c, r1, r2, r3⟩ := h2
    exact ⟨A, n, c, Arr.keep r1 q3 (fun q => h3 b q b (by simp) rfl), trivial, r3.same fun x hx => q3.block x (r3.lt x hx) (fun q => h3 x q x (by simp [hx]) rfl)⟩
  · intro q hq r hr e
    subst e
    rcases List.mem_cons.1 hq with e | hq
    · exact h3 q (by simp [e]) q hr rfl
    · rcases q2 q hq with q4 | q4
      · exact h3 q (by simp [q4]) q hr rfl
      · rcases List.mem_cons.1 hr with e | hr
        · rw [e] at q4; have := hb.1; omega
        · have := (hb.2.2 q hr).1; omega
  · intro q hq
    rcases List.mem_cons.1 hq with e | hq
    · exact h4 q (by simp [e])
    · rcases q2 q hq with q4 | q4
      · exact h4 q (by simp [q4])
      · have := h6.size; omega
theorem push_a (a b : Nat) (Ca Cb : List Int) (x : Int) (w0 w : World) (h : Two w0 w a b Ca Cb) (hs : Ca.length < 1000) : Calls Try.prog 10 #[.pointer (some ⟨a, 0, none⟩), .int .i64 x] w fun e w' => e = .returned (.tuple #[]) ∧ ∃ Ca', Two w0 w' a b Ca' Cb ∧ Ca'.Perm (Ca ++ [x]) := by
  obtain ⟨Ga, h1, h2⟩ := h.step
  exact (HI.push_any a 0 Ca Ga x w h1 hs).mono fun e w' ⟨q1, C', G', q2, q3, q4, q5⟩ => ⟨q1, C', h2 w' C' G' q2 q4 q5, q3⟩
theorem push_b (a b : Nat) (Ca Cb : List Int) (x : Int) (w0 w : World) (h : Two w0 w a b Ca Cb) (hs : Cb.length < 1000) : Calls Try.prog 10 #[.pointer (some ⟨b, 0, none⟩), .int .i64 x] w fun e w' => e = .returned (.tuple #[]) ∧ ∃ Cb', Two w0 w' a b Ca Cb' ∧ Cb'.Perm (Cb ++ [x]) :=
  (push_a b a Cb Ca x w0 w h.swap hs).mono fun e w' ⟨q1, C', q2, q3⟩ => ⟨q1, C', q2.swap, q3⟩
theorem pop_a (a b : Nat) (Ca Cb : List Int) (w0 w : World) (h : Two w0 w a b Ca Cb) (hc : Ca ≠ []) (hs : Ca.length ≤ 1000) : Calls Try.prog 11 #[.pointer (some ⟨a, 0, none⟩)] w fun e w' => ∃ x Ca', e = .returned (.tuple #[.int .i64 x, .bool true]) ∧ HI.Least Ca x ∧ Two w0 w' a b Ca' Cb ∧ Ca.Perm (x :: Ca') := by
  obtain ⟨Ga, h1, h2⟩ := h.step
  exact (HI.pop_any a 0 Ca Ga w h1 hc hs).mono fun e w' ⟨x, C', G', q1, q2, q3, q4, q5, q6⟩ => ⟨x, C', q1, q2, h2 w' C' G' q3 q5 q6, q4⟩
theorem pop_b (a b : Nat) (Ca Cb : List Int) (w0 w : World) (h : Two w0 w a b Ca Cb) (hc : Cb ≠ []) (hs : Cb.length ≤ 1000) : Calls Try.prog 11 #[.pointer (some ⟨b, 0, none⟩)] w fun e w' => ∃ x Cb', e = .returned (.tuple #[.int .i64 x, .bool true]) ∧ HI.Least Cb x ∧ Two w0 w' a b Ca Cb' ∧ Cb.Perm (x :: Cb') :=
  (pop_a b a Cb Ca w0 w h.swap hc hs).mono fun e w' ⟨x, C', q1, q2, q3, q4⟩ => ⟨x, C', q1, q2, q3.swap, q4⟩
theorem top_a (a b : Nat) (Ca Cb : List Int) (w0 w : World) (h : Two w0 w a b Ca Cb) (hc : Ca ≠ []) (hs : Ca.length ≤ 1000) : Calls Try.prog 14 #[.pointer (some ⟨a, 0, none⟩)] w fun e w' => ∃ x, e = .returned (.tuple #[.int .i64 x, .bool true]) ∧ HI.Least Ca x ∧ Two w0 w' a b Ca Cb := by
  obtain ⟨Ga, h1, h2⟩ := h.step
  exact (HI.top_any a 0 Ca Ga w h1 hc hs).mono fun e w' ⟨x, q1, q2, q3⟩ => ⟨x, q1, q2, h.older q3⟩
theorem len_a (a b : Nat) (Ca Cb : List Int) (w0 w : World) (h : Two w0 w a b Ca Cb) : Calls Try.prog 13 #[.pointer (some ⟨a, 0, none⟩)] w fun e w' => e = .returned (.int .i64 (Ca.length : Int)) ∧ w = w' := by
  obtain ⟨Ga, h1, h2⟩ := h.step
  exact HI.len_any a 0 Ca Ga w h1
/-- The list begun anew at place k, so many of it. -/
def rot (l : List Int) (k : Nat) : List Int := l.drop k ++ l.take k
theorem rot_len (l : List Int) (k : Nat) (hk : k ≤ l.length) : (rot l k).length = l.length := by unfold rot; rw [List.length_append, List.length_drop, List.length_take]; omega
theorem rot_perm (l : List Int) (k : Nat) : (rot l k).Perm l := by
  unfold rot
  exact List.perm_append_comm.trans (by rw [List.take_append_drop])
theorem rot_at (l : List Int) (k i : Nat) (hk : k ≤ l.length) (hi : i < l.length) : (rot l k)[i]? = l[(i + k) % l.length]? := by
  unfold rot
  by_cases h : i + k < l.length
  · rw [List.getElem?_append_left (by rw [List.length_drop]; omega), List.getElem?_drop, Nat.mod_eq_of_lt h, Nat.add_comm]
  · rw [List.getElem?_append_right (by rw [List.length_drop]; omega), List.length_drop, List.getElem?_take]
    have e : (i + k) % l.length = i - (l.length - k) := by
      rw [Nat.mod_eq_sub_mod (by omega), Nat.mod_eq_of_lt (by omega)]
      omega
    rw [if_pos (by omega), e]
theorem least_eq {C D : List Int} {x y : Int} (hp : C.Perm D) (h1 : HI.Least C x) (h2 : HI.Least D y) : x = y := by
  have a := h1.2 y (hp.symm.subset h2.1)
  have b := h2.2 x (hp.subset h1.1)
  have a : x ≤ y := a
  have b : y ≤ x := b
  omega
set_option maxHeartbeats 1000000 in
theorem horder_any (A : Option Addr) (len cap : Nat) (zs : List Int) (cut : Int) (w : World) (hr : RA w A len cap zs) (hz : len ≤ zs.length) (hcut : I64 cut) : Calls Try.prog 7 #[.slice A len cap, .int .i64 cut] w fun e w' => e = .returned (.bool true) ∧ Below w.heap.size w w' := by
  obtain ⟨h1, h2, h3⟩ := hr
  unfold maxLen at h2
  have N1 := Lib.hid (HI.new_any 0 w trivial)
  have R := Lib.hid h3; have CU := Lib.hid hcut
  clear h3 hcut
  go_enter Try.func7, Try.ntmps7
  go_wp2_with fail
  refine N1.out.mono ?_
  rintro e w1 ⟨rfl, at1, b1, s1⟩
  have N2 := Lib.hid (HI.new_any 0 w1 trivial)
  have AT1 := Lib.hid at1; have B1 := Lib.hid b1; have S1 := Lib.hid s1
  clear at1 b1 s1 N1
  go_wp2_with fail
  refine N2.out.mono ?_
  rintro e w2 ⟨rfl, at2, b2, s2⟩
  obtain ⟨a, ha⟩ : ∃ a, a = w.heap.size := ⟨_, rfl⟩
  obtain ⟨b, hb⟩ : ∃ b, b = w1.heap.size := ⟨_, rfl⟩
  have T2 : Hid (Two w w2 a b [] []) := Lib.hid ⟨[], [], by rw [ha]; exact AT1.out.below b2, by rw [hb]; exact at2, fun q hq r hr => by
    have e1 : q = a := by simpa using hq
    have e2 : r = b := by simpa using hr
    have := S1.out
    omega, fun q hq => by
    have e1 : q = a := by simpa using hq
    omega, fun q hq => by
    have e1 : q = b := by simpa using hq
    have := S1.out
    omega, bstep B1.out b2⟩
  rw [← ha, ← hb]
  clear at2 b2 s2 N2 AT1 B1 S1 ha hb
  go_wp2_with fail
  obtain ⟨n, hn⟩ : ∃ n, min len 40 = n := ⟨_, rfl⟩
  have hn1 : n ≤ len := by omega
  have hn2 : n ≤ 40 := by omega
  have m1 : max (min (len : Int) 40) 0 = (n : Int) := by omega
  have m2 : (min (len : Int) 40).toNat = n := by omega
  have m3 : min (len : Int) 40 = (n : Int) := by omega
  rw [m1, m2, m3]
  clear hn m1 m2 m3
  have WI := Lib.hid (within_in cut 0 (n : Int) CU.out (by decide) (by omega) (by omega) (by omega) w2)
  with_reducible refine WI.out.mono ?_
  rintro e w3 ⟨y, rfl, y0, y1, rfl⟩
  go_wp2_with fail
  obtain ⟨k, hk⟩ : ∃ k : Nat, y = (k : Int) := ⟨y.toNat, by omega⟩
  subst hk
  have hkn : k ≤ n := by omega
  obtain ⟨own, ho⟩ : ∃ own, own = zs.take n := ⟨_, rfl⟩
  have OL : Hid (own.length = n) := Lib.hid (by rw [ho, List.length_take]; omega)
  have OR : Hid (∀ j x, own[j]? = some x → ∃ b o, A = some ⟨b, o, none⟩ ∧ b < w.heap.size ∧ w.cell? ⟨b, o + j, none⟩ = some (.int .i64 x)) := Lib.hid (fun j x hx => by
    have hj : j < n := by have := (List.getElem?_eq_some_iff.1 hx).1; rw [OL.out] at this; exact this
    obtain ⟨b, o, q1, q2, q3, _⟩ := R.out j (by omega)
    refine ⟨b, o, q1, q2, ?_⟩
    rw [ho, List.getElem?_take, if_pos hj] at hx
    rw [q3, List.getD_eq_getElem?_getD, hx]; rfl)
  clear ho R CU WI y0 y1
  go_wp2_with fail
  go_loopw [9, 35] (fun _ jv wr => ∃ (j : Nat) (Ca Cb : List Int), j ≤ n ∧ jv = .int .i64 j ∧ Two w wr a b Ca Cb ∧ Ca.Perm (own.take j) ∧ Cb.Perm ((rot own k).take j)) (fun _ jv _ => n - (intOf jv).toNat)
  case atStart => exact ⟨0, [], [], Nat.zero_le _, rfl, T2.out, List.Perm.refl _, List.Perm.refl _⟩
  case round =>
    clear T2
    obtain ⟨j, Ca, Cb, hj, rfl, tw, pa, pb⟩ := hrel
    by_cases hlt : j < n
    · obtain ⟨x, hx⟩ : ∃ x, own[j]? = some x := ⟨_, List.getElem?_eq_getElem (by rw [OL.out]; exact hlt)⟩
      have hmod : (j + k) % n < n := Nat.mod_lt _ (by omega)
      obtain ⟨y, hy⟩ : ∃ y, own[(j + k) % n]? = some y := ⟨_, List.getElem?_eq_getElem (by rw [OL.out]; exact hmod)⟩
      have HY : Hid ((rot own k)[j]? = some y) := Lib.hid (by rw [rot_at own k j (by rw [OL.out]; exact hkn) (by rw [OL.out]; exact hlt), OL.out]; exact hy)
      obtain ⟨g, o, rfl, hgl, z0⟩ := OR.out j x hx
      obtain ⟨g2, o2, e2, _, z1⟩ := OR.out _ y hy
      injection e2 with e2
      injection e2 with e2 e3
      subst e2 e3
      have hCa : Ca.length = j := by rw [pa.length_eq, List.length_take, OL.out]; omega
      have hCb : Cb.length = j := by rw [pb.length_eq, List.length_take, rot_len _ _ (by rw [OL.out]; exact hkn), OL.out]; omega
      have PA := Lib.hid (push_a a b Ca Cb x w wr tw (by omega))
      have f0 : wr.cell? ⟨g, o + j, none⟩ = some (.int .i64 x) := by rw [tw.bel.cell (p := ⟨g, o + j, none⟩) hgl]; exact z0
      have i1 : decide ((j : Int) < (n : Int)) = true := by rw [decide_eq_true_eq]; omega
      have i2 : (j : Int) < (n : Int) := by omega
      have Z1 := Lib.hid z1; have TWB := Lib.hid tw; have PAA := Lib.hid pa; have PBB := Lib.hid pb; have HX := Lib.hid hx
      clear z0 z1 tw pa pb hx hy
      go_wp2_with fail
      refine PA.out.mono ?_
      rintro e w4 ⟨rfl, Ca', tw4, pa4⟩
      have PB := Lib.hid (push_b a b Ca' Cb y w w4 tw4 (by omega))
      obtain ⟨q, hq⟩ : ∃ q, q = (j + k) % n := ⟨_, rfl⟩
      have f1 : w4.cell? ⟨g, o + q, none⟩ = some (.int .i64 y) := by rw [tw4.bel.cell (p := ⟨g, o + q, none⟩) hgl, hq]; exact Z1.out
      have r1 : ((j : Int) + (k : Int)) % (n : Int) = (q : Int) := by rw [hq, Int.natCast_emod, Int.natCast_add]
      have r2 : ((j : Int) + (k : Int)).tmod (n : Int) = (q : Int) := by rw [Int.tmod_eq_emod_of_nonneg (by omega)]; exact r1
      have hz : q < n := by rw [hq]; exact hmod
      have r3 : (q : Int) < (n : Int) := by omega
      have hn0 : decide ((n : Int) = 0) = false := by rw [decide_eq_false_iff_not]; omega
      have hn00 : ¬ (n = 0) := by omega
      have hnp : (0 : Int) < (n : Int) := by omega
      have P4 := Lib.hid pa4
      clear hq f0 tw4 pa4 PA
      go_wp2_with fail
      refine PB.out.mono ?_
      rintro e w5 ⟨rfl, Cb', tw5, pb5⟩
      have T5 := Lib.hid tw5
      have PA5 : Hid (Ca'.Perm (own.take (j + 1))) := Lib.hid (by
        rw [List.take_add_one, HX.out]
        exact P4.out.trans (List.Perm.append_right _ PAA.out))
      have PB5 : Hid (Cb'.Perm ((rot own k).take (j + 1))) := Lib.hid (by
        rw [List.take_add_one, HY.out]
        exact pb5.trans (List.Perm.append_right _ PBB.out))
      clear tw5 pb5 P4 PB PAA PBB r1 r2 r3 f1
      go_wp2_with fail
      go_roundw
      case rel => exact ⟨j + 1, Ca', Cb', by omega, by go_num, T5.out, PA5.out, PB5.out⟩
      case measure => simp [intOf]; omega
    · obtain rfl : j = n := by omega
      have PAB : Hid (Ca.Perm Cb) := Lib.hid (by
        rw [List.take_of_length_le (by rw [OL.out]; exact Nat.le_refl _)] at pa
        rw [List.take_of_length_le (by rw [rot_len _ _ (by rw [OL.out]; exact hkn), OL.out]; exact Nat.le_refl _)] at pb
        exact pa.trans ((rot_perm own k).symm.trans pb.symm))
      have CL : Hid (Ca.length = j) := Lib.hid (by rw [pa.length_eq, List.length_take, OL.out]; omega)
      have i1 : decide ((j : Int) < (j : Int)) = false := by simp
      have TW := Lib.hid tw
      clear tw pa pb OR OL
      go_wp2_with fail
      go_loopw [10, 11, 12, 13, 14, 15, 58] (fun _ _ _ _ _ _ iv wr => ∃ (i : Nat) (Ca Cb : List Int), i ≤ j ∧ iv = .int .i64 i ∧ Two w wr a b Ca Cb ∧ Ca.Perm Cb ∧ Ca.length = j - i) (fun _ _ _ _ _ _ iv _ => j - (intOf iv).toNat)
      case atStart => exact ⟨0, Ca, Cb, Nat.zero_le _, rfl, TW.out, PAB.out, CL.out⟩
      case round =>
        clear TW PAB CL
        obtain ⟨i, Ca, Cb, hi, rfl, tw, pab, hl⟩ := hrel
        have hlb : Cb.length = Ca.length := pab.length_eq.symm
        by_cases hlt2 : i < j
        · have j1 : decide ((i : Int) < (j : Int)) = true := by rw [decide_eq_true_eq]; omega
          have hane : Ca ≠ [] := fun e => by rw [e] at hl; simp at hl; omega
          have hbne : Cb ≠ [] := fun e => by rw [e] at hlb; simp at hlb; omega
          have TP := Lib.hid (top_a a b Ca Cb w wr tw hane (by omega))
          have PAB := Lib.hid pab; have HL := Lib.hid hl
          clear tw pab
          go_wp2_with fail
          refine TP.out.mono ?_
          rintro e w4 ⟨t, rfl, lt, tw4⟩
          have PO := Lib.hid (pop_a a b Ca Cb w w4 tw4 hane (by omega))
          have LT := Lib.hid lt
          clear lt tw4 TP
          go_wp2_with fail
          refine PO.out.mono ?_
          rintro e w5 ⟨x, Ca', rfl, lx, tw5, px⟩
          obtain rfl : t = x := least_eq (List.Perm.refl _) LT.out lx
          have PB := Lib.hid (pop_b a b Ca' Cb w w5 tw5 hbne (by omega))
          have PX := Lib.hid px
          clear lx tw5 px PO
          go_wp2_with fail
          refine PB.out.mono ?_
          rintro e w6 ⟨y, Cb', rfl, ly, tw6, py⟩
          obtain rfl : t = y := least_eq PAB.out LT.out ly
          have T6 := Lib.hid tw6
          have P6 : Hid (Ca'.Perm Cb') := Lib.hid (List.Perm.cons_inv (PX.out.symm.trans (PAB.out.trans py)))
          have L6 : Hid (Ca'.length = j - (i + 1)) := Lib.hid (by have := PX.out.length_eq; simp at this; have := HL.out; omega)
          have tt : (t == t) = true := by simp
          have tt2 : (t != t) = false := by simp
          clear ly tw6 py PB PX PAB LT HL hl hlb hane hbne
          go_wp2_with fail
          go_roundw
          case rel => first | exact ⟨i + 1, Ca', Cb', by omega, by go_num, T6.out, P6.out, L6.out⟩ | ((repeat apply Exists.intro); exact ⟨⟨i + 1, Ca', Cb', by omega, by go_num, T6.out, P6.out, L6.out⟩, rfl⟩)
          case measure => simp [intOf]; omega
        · obtain rfl : i = j := by omega
          have j1 : decide ((i : Int) < (i : Int)) = false := by simp
          have ha0 : Ca = [] := List.eq_nil_of_length_eq_zero (by omega)
          subst ha0
          have hb0 : Cb = [] := List.eq_nil_of_length_eq_zero (by rw [hlb]; rfl)
          subst hb0
          have L1 := Lib.hid (len_a a b [] [] w wr tw)
          have L2 := Lib.hid (len_a b a [] [] w wr tw.swap)
          have HRU := Lib.hid (hruns_any wr)
          have TW := Lib.hid tw
          clear tw pab hl hlb
          go_wp2_with fail
          refine L1.out.mono ?_
          rintro e w4 ⟨rfl, rfl⟩
          go_wp2_with fail
          refine L2.out.mono ?_
          rintro e w4 ⟨rfl, rfl⟩
          go_wp2_with fail
          refine HRU.out.mono ?_
          rintro e w5 ⟨rfl, b5⟩
          have B5 := Lib.hid (bstep TW.out.bel b5)
          clear b5
          go_wp2_with fail
          go_ret
          exact ⟨rfl, B5.out⟩
end Go.Proofs.Ytkgjbmlgbfejlaa
