/-
  The walk of the statement HeapRuns: the call returns true; nothing that was in memory turns.
-/
import Derived.Test.YtkgjbmlgbfejlaaHiQ
import Derived.Test.YtkgjbmlgbfejlaaMem
namespace Go.Proofs.Ytkgjbmlgbfejlaa
set_option linter.unusedVariables false
set_option linter.unusedSimpArgs false
set_option maxRecDepth 100000
open Go.RowKit

def iv (xs : List Int) : List Value := xs.map (Value.int .i64)
theorem iv_len (xs : List Int) : (iv xs).length = xs.length := by unfold iv; rw [List.length_map]
theorem iv_at {xs : List Int} {k : Nat} {x : Int} (h : xs[k]? = some x) : (iv xs)[k]? = some (.int .i64 x) := by unfold iv; rw [List.getElem?_map, h]; rfl
/-- Ints that can be read. -/
def IRw (w : World) (A : Option Addr) (xs : List Int) : Prop := ∀ (k : Nat) (x : Int), xs[k]? = some x → ∃ b o, A = some ⟨b, o, none⟩ ∧ b < w.heap.size ∧ w.cell? ⟨b, o + k, none⟩ = some (.int .i64 x)
theorem IRw.below {w w' : World} {A : Option Addr} {xs : List Int} (h : IRw w A xs) (b : Below w.heap.size w w') : IRw w' A xs := fun k x hx => by
  obtain ⟨b', o, h1, h2, h3⟩ := h k x hx
  exact ⟨b', o, h1, Nat.lt_of_lt_of_le h2 b.size, by rw [b.cell (p := ⟨b', o + k, none⟩) h2]; exact h3⟩
theorem RowA.irw {w : World} {e : TypeId} {A : Option Addr} {c : Nat} {xs : List Int} (h : RowA w e A c (iv xs)) : IRw w A xs := fun k x hx => by
  have hk := (List.getElem?_eq_some_iff.1 hx).1
  obtain ⟨g, rfl, h1⟩ := h.at (by rw [iv_len]; omega)
  refine ⟨g, 0, rfl, h.lt _ rfl, ?_⟩
  rw [Nat.zero_add, (h1 k).2 (by rw [iv_len]; exact hk)]
  exact iv_at hx
set_option maxHeartbeats 400000 in
theorem isame_rw (A B : Option Addr) (n c c' : Nat) (xs : List Int) (w : World) (hn : n ≤ 1000000) (hl : xs.length = n) (hA : IRw w A xs) (hB : IRw w B xs) :
    Calls Try.prog 12 #[.slice A n c, .slice B n c'] w fun e w' => e = .returned (.bool true) ∧ Below w.heap.size w w' := by
  have HL := Lib.hid hl
  clear hl
  have HA := Lib.hid hA; have HB := Lib.hid hB
  clear hA hB
  go_enter Try.func12, Try.ntmps12
  go_wp2
  go_loopw [5] (fun i wr => ∃ k : Nat, k ≤ n ∧ i = .int .i64 k ∧ Below w.heap.size w wr) (fun i _ => n - (intOf i).toNat)
  case atStart => exact ⟨0, Nat.zero_le _, rfl, Below.refl _ _⟩
  case round =>
    obtain ⟨k, hk, rfl, hb⟩ := hrel
    by_cases hlt : k < n
    · obtain ⟨v, hv⟩ : ∃ v, xs[k]? = some v := ⟨_, List.getElem?_eq_getElem (by rw [HL.out]; exact hlt)⟩
      obtain ⟨b1, o1, rfl, hl1, z1⟩ := HA.out.below hb k v hv
      obtain ⟨b2, o2, rfl, hl2, z2⟩ := HB.out.below hb k v hv
      have HB2 := Lib.hid hb
      clear hv hb
      go_wp2
      go_quiet (fail)
      go_wp2
      go_roundw
      case rel => exact ⟨k + 1, by omega, by go_num, bstep HB2.out (belowN _ _)⟩
      case measure => simp [intOf]; omega
    · go_wp2
      go_ret
      exact ⟨rfl, hb⟩
/-- The least of a rising list is its first. -/
theorem least_first {C r : List Int} {x y : Int} (hp : C.Perm (y :: r)) (hs : ∀ z, z ∈ r → y ≤ z) (h : HI.Least C x) : x = y := by
  have h1 : x ≤ y := h.2 y (hp.symm.subset (by simp))
  have h2 := hp.subset h.1
  rcases List.mem_cons.1 h2 with e | e
  · exact e
  · have := hs x e
    omega
/-- A row of another kind grows beside a heap. -/
theorem in_grown {w0 w w' : World} {bp bd c k : Nat} {C : List Int} {e : TypeId} {A : Option Addr} {xs : List Value} (h : HI.In w0 w bp bd C) (o : RowO w w0.heap.size e A c xs) (h1 : e ≠ 62) (h2 : e ≠ 59) (h3 : e ≠ 4) (g : w.grownBy w' (Value.slice A k c).ownBlock) : HI.In w0 w' bp bd C := by
  refine h.keep (F := fun b => some b = (Value.slice A k c).ownBlock) ⟨g.os, g.tape, g.output, g.size, fun b hb hn => g.block b hb hn⟩ (fun b hb => ?_)
  cases A with
  | none => cases hb
  | some a =>
    have hb : some b = some a.block := hb
    injection hb with hb
    subst hb
    obtain ⟨g', cur, q1, q2, _⟩ : ∃ g cur, (some a : Option Addr) = some ⟨g, 0, none⟩ ∧ w.heap[g]? = some (.cells cur e (0, 0)) ∧ True := by
      rcases o.row.parts with ⟨q, _⟩ | ⟨g, cur, q, q2, _⟩
      · cases q
      · exact ⟨g, cur, q, q2, trivial⟩
    injection q1 with q1
    subst q1
    exact ⟨(o.ge _ rfl).1, cur, e, q2, h1, h2, h3⟩
set_option maxHeartbeats 4000000 in
theorem hruns_any (w : World) : Calls Try.prog 3 #[] w fun e w' => e = .returned (.bool true) ∧ Below w.heap.size w w' := by
  have N1 := Lib.hid (HI.new_in 0 w w trivial (Below.refl _ _))
  go_enter Try.func3, Try.ntmps3
  go_wp2_with fail
  refine N1.out.mono ?_
  rintro e w1 ⟨rfl, in1, b1⟩
  obtain ⟨bp, hbp⟩ : ∃ bp, bp = w.heap.size := ⟨_, rfl⟩
  rw [← hbp] at in1 ⊢
  have I1 := Lib.hid in1
  clear N1 in1 b1 hbp
  obtain ⟨gl, hgl⟩ : ∃ g, g = w1.heap.size := ⟨_, rfl⟩
  obtain ⟨w2, hw2⟩ : ∃ W, W = w1.alloc (.cells #[.int .i64 5, .int .i64 1, .int .i64 4, .int .i64 1] 3) := ⟨_, rfl⟩
  have A2 : Hid (Arr w2 gl 3 (iv [5, 1, 4, 1])) := Lib.hid (by rw [hw2, hgl]; exact Arr.new w1 _ _)
  have I2 : Hid (HI.In w w2 bp 0 []) := Lib.hid (I1.out.older (by rw [hw2]; exact (Below.refl _ _).alloc (Nat.le_refl _) _))
  go_upto_region 5 with fail
  rw [← hw2, ← hgl]
  clear hw2 hgl I1
  go_loopw [3, 14] (fun _ jv wr => ∃ (j : Nat) (C : List Int), j ≤ 4 ∧ jv = .int .i64 j ∧ HI.In w wr bp 0 C ∧ C.Perm (([5, 1, 4, 1] : List Int).take j) ∧ Arr wr gl 3 (iv [5, 1, 4, 1])) (fun _ jv _ => 4 - (intOf jv).toNat)
  case atStart => exact ⟨0, [], by omega, rfl, I2.out, List.Perm.refl _, A2.out⟩
  case round =>
    clear I2 A2
    obtain ⟨j, C, hj, rfl, hin, hp, ha⟩ := hrel
    by_cases hlt : j < 4
    · obtain ⟨x, hx⟩ : ∃ x, ([5, 1, 4, 1] : List Int)[j]? = some x := ⟨_, List.getElem?_eq_getElem (by simpa using hlt)⟩
      have c0 : wr.cell? ⟨gl, j, none⟩ = some (.int .i64 x) := by rw [Arr.cell ha j]; exact iv_at hx
      have hC : C.length = j := by rw [hp.length_eq, List.length_take]; simp; omega
      have i1 : decide ((j : Int) < 4) = true := by rw [decide_eq_true_eq]; omega
      have i2 : (j : Int) < 4 := by omega
      have PU := Lib.hid (HI.push_in bp 0 C x w wr hin (by omega))
      have HA := Lib.hid ha; have HP := Lib.hid hp; have HX := Lib.hid hx
      clear hin hp ha hx
      go_wp2_with fail
      refine PU.out.mono ?_
      rintro e w3 ⟨rfl, C', in3, p3, ap3⟩
      have IN3 := Lib.hid in3
      have P3 : Hid (C'.Perm (([5, 1, 4, 1] : List Int).take (j + 1))) := Lib.hid (by
        rw [List.take_add_one, HX.out]
        exact p3.trans (List.Perm.append_right _ HP.out))
      have A3 := Lib.hid (Arr.same HA.out (ap3.2 gl _ _ HA.out (by decide) (by decide)))
      clear in3 p3 ap3 PU
      go_wp2_with fail
      go_roundw
      case rel => exact ⟨j + 1, C', by omega, by go_num, IN3.out, P3.out, A3.out⟩
      case measure => simp [intOf]; omega
    · obtain rfl : j = 4 := by omega
      have i1 : decide (((4 : Nat) : Int) < 4) = false := by decide
      have P4 : Hid (C.Perm [1, 1, 4, 5]) := Lib.hid (hp.trans (by decide))
      have IN4 := Lib.hid hin
      clear hin hp ha
      go_wp2_with fail
      go_loopw [4, 5, 6, 22] (fun lv _ _ jv wr => ∃ (j : Nat) (C : List Int) (A : Option Addr) (c : Nat), j ≤ 4 ∧ jv = .int .i64 j ∧ lv = .slice A j c ∧ HI.In w wr bp 0 C ∧ C.Perm (([1, 1, 4, 5] : List Int).drop j) ∧ RowO wr w.heap.size 3 A c (iv (([1, 1, 4, 5] : List Int).take j))) (fun _ _ _ jv _ => 4 - (intOf jv).toNat)
      case atStart => exact ⟨0, C, none, 0, by omega, rfl, rfl, IN4.out, P4.out, RowO.of (RowA.nil _ _) (fun a ha => by cases ha)⟩
      case round =>
        clear P4 IN4
        obtain ⟨j, C, A, c, hj, rfl, rfl, hin, hp, ho⟩ := hrel
        have HO := Lib.hid ho; have HP := Lib.hid hp
        by_cases hlt : j < 4
        · obtain ⟨x, hx⟩ : ∃ x, ([1, 1, 4, 5] : List Int)[j]? = some x := ⟨_, List.getElem?_eq_getElem (by simpa using hlt)⟩
          have hC : C.length = 4 - j := by rw [hp.length_eq, List.length_drop]; simp
          have i1 : decide ((j : Int) < 4) = true := by rw [decide_eq_true_eq]; omega
          have i2 : (j : Int) < 4 := by omega
          have PO := Lib.hid (HI.pop_in bp 0 C w wr hin (fun e => by rw [e] at hC; simp at hC; omega) (by omega))
          have ED : Hid (([1, 1, 4, 5] : List Int).drop j = x :: ([1, 1, 4, 5] : List Int).drop (j + 1)) := Lib.hid (by
            rw [List.drop_eq_getElem_cons (by simpa using hlt)]
            congr 1
            have := hx
            rw [List.getElem?_eq_getElem (by simpa using hlt)] at this
            injection this)
          have ER : Hid (∀ z, z ∈ ([1, 1, 4, 5] : List Int).drop (j + 1) → x ≤ z) := Lib.hid (by
            rcases (by omega : j = 0 ∨ j = 1 ∨ j = 2 ∨ j = 3) with rfl | rfl | rfl | rfl <;> (simp at hx; subst hx; decide))
          have HX := Lib.hid hx
          clear hin hp ho hx
          go_wp2_with fail
          refine PO.out.mono ?_
          rintro e w3 ⟨x', C', rfl, le3, in3, p3, ap3⟩
          obtain rfl : x' = x := least_first (HP.out.trans (by rw [ED.out])) ER.out le3
          have P3 : Hid (C'.Perm (([1, 1, 4, 5] : List Int).drop (j + 1))) := Lib.hid (by
            have q := p3.symm.trans (HP.out.trans (by rw [ED.out]))
            exact List.Perm.cons_inv q)
          have O3 : Hid (RowO w3 w.heap.size 3 A c (iv (([1, 1, 4, 5] : List Int).take j))) := Lib.hid (HO.out.same (fun a ha => by
            rcases HO.out.row.parts with ⟨q, _⟩ | ⟨g, cur, q, q2, _⟩
            · rw [q] at ha; cases ha
            · rw [q] at ha; injection ha with ha; subst ha
              exact ap3.2 g cur _ q2 (by decide) (by decide)))
          have IN3 := Lib.hid in3
          clear le3 in3 p3 ap3 PO HO HP
          have BA : Hid (Below w3.heap.size w3 (w3.alloc (.cells #[.int .i64 x'] 3))) := Lib.hid ((Below.refl _ _).alloc (Nat.le_refl _) _)
          have O4 : Hid (RowO (w3.alloc (.cells #[.int .i64 x'] 3)) w.heap.size 3 A c (iv (([1, 1, 4, 5] : List Int).take j))) := Lib.hid (O3.out.same fun a ha => BA.out.block a.block (O3.out.ge a ha).2)
          have IN4 := Lib.hid (IN3.out.older BA.out)
          have hbase : w.heap.size ≤ (w3.alloc (.cells #[.int .i64 x'] 3)).heap.size := IN4.out.bel.size
          have TL : Hid ((iv (([1, 1, 4, 5] : List Int).take j)).length = j) := Lib.hid (by rw [iv_len, List.length_take]; simp; omega)
          go_wp2_with (at_builtin; go_loud (refine app_row _ rfl _ _ 25 3 rfl Try.underlying25 (.int .i64 0) 8 (by kernel_rfl) rfl (by decide) w.heap.size A c j _ TL.out rfl O4.out (some ⟨w3.heap.size, 0, none⟩) 1 1 [.int .i64 x'] rfl rfl (Src.one w3 _ _ _ _) (by simp [Value.oneCell']) (by omega) (by simp) hbase ?_))
          intro A2 c2 w5 o5 g5 _
          have O5 : Hid (RowO w5 w.heap.size 3 A2 c2 (iv (([1, 1, 4, 5] : List Int).take (j + 1)))) := Lib.hid (by
            have e : iv (([1, 1, 4, 5] : List Int).take (j + 1)) = iv (([1, 1, 4, 5] : List Int).take j) ++ [.int .i64 x'] := by
              rw [List.take_add_one, HX.out]
              unfold iv
              rw [List.map_append]
              rfl
            rw [e]; exact o5)
          have I5 : Hid (HI.In w w5 bp 0 C') := Lib.hid (in_grown IN4.out O4.out (by decide) (by decide) (by decide) g5)
          clear o5 g5 O3 O4 IN3 IN4 BA hbase TL HX
          go_wp2_with fail
          go_roundw
          case rel => ((repeat apply Exists.intro); exact ⟨⟨j + 1, C', A2, c2, by omega, by go_num, by go_num, I5.out, P3.out, O5.out⟩, rfl⟩)
          case measure => simp [intOf]; omega
        · obtain rfl : j = 4 := by omega
          have i1 : decide (((4 : Nat) : Int) < 4) = false := by decide
          have hC : C = [] := List.eq_nil_of_length_eq_zero (by rw [hp.length_eq]; rfl)
          subst hC
          have PN := Lib.hid (HI.nop_in bp 0 w wr hin)
          have IN := Lib.hid hin
          clear hin hp ho HP
          go_wp2_with fail
          refine PN.out.mono ?_
          rintro e w5 ⟨rfl, b5⟩
          have I5 := Lib.hid (IN.out.older b5)
          have R5 : Hid (IRw w5 A [1, 1, 4, 5]) := Lib.hid (by have q := HO.out.row.irw; exact q.below b5)
          clear b5 PN IN HO
          go_wp2_with fail
          have BL : Hid (Below w5.heap.size w5 (w5.alloc (.cells #[.int .i64 1, .int .i64 1, .int .i64 4, .int .i64 5] 3))) := Lib.hid ((Below.refl _ _).alloc (Nat.le_refl _) _)
          have SA := Lib.hid (isame_rw A (some ⟨w5.heap.size, 0, none⟩) 4 c 4 [1, 1, 4, 5] (w5.alloc (.cells #[.int .i64 1, .int .i64 1, .int .i64 4, .int .i64 5] 3)) (by decide) rfl (R5.out.below BL.out) (fun k x hx => ⟨w5.heap.size, 0, rfl, by simp, by
            rw [Nat.zero_add]
            have e := Arr.cell (Arr.new w5 3 (iv [1, 1, 4, 5])) k
            have e2 := e.trans (iv_at hx)
            exact e2⟩))
          have I6 := Lib.hid (I5.out.older BL.out)
          go_wp2_with fail
          refine SA.out.mono ?_
          rintro e w6 ⟨rfl, b6⟩
          have I7 := Lib.hid (I6.out.older b6)
          have LE := Lib.hid (HI.len_in bp 0 [] w w6 I7.out)
          clear b6 SA I6 I5 R5 BL
          go_wp2_with fail
          refine LE.out.mono ?_
          rintro e w7 ⟨rfl, rfl⟩
          go_wp2_with fail
          go_ret
          exact ⟨rfl, I7.out.bel⟩
end Go.Proofs.Ytkgjbmlgbfejlaa
