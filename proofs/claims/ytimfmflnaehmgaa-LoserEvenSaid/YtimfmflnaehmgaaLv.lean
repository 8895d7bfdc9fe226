/-
  What goes on from a node: the contracts of unbeaten, leaf and play, for things of ints.
-/
import Derived.Test.YtimfmflnaehmgaaLu
namespace Go.Proofs.Ytimfmflnaehmgaa
set_option linter.unusedVariables false
set_option linter.unusedSimpArgs false
set_option maxRecDepth 100000
open Go.RowKit

/-- The node of a source. -/
theorem LI.leaf_any (b nb p i : Nat) (w : World) (c4 : w.cell? ⟨b, 4, none⟩ = some (.slice (some ⟨nb, 0, none⟩) (2 * p) (2 * p))) (hp : p ≤ 1000) (hi : i ≤ 1000) :
    Calls Try.prog 25 #[.pointer (some ⟨b, 0, none⟩), .int .i64 i] w fun e w' => e = .returned (.int .i64 ((p + i : Nat) : Int)) ∧ Below w.heap.size w w' := by
  have e1 : (((2 * p : Nat) : Int)).tdiv 2 = (p : Int) := by rw [Int.tdiv_eq_ediv_of_nonneg (by omega)]; omega
  have e2 : IntKind.i64.wrap ((p : Int) + (i : Int)) = ((p + i : Nat) : Int) := by rw [IntWalk.i64_in _ (by omega)]; omega
  obtain ⟨q, hq⟩ : ∃ q, 2 * p = q := ⟨_, rfl⟩
  rw [hq] at c4 e1
  clear hq
  go_enter Try.func25, Try.ntmps25
  go_wp2_with fail
  go_ret
  exact ⟨rfl, Below.refl _ _⟩
theorem LI.unbeaten_none (b hb' by' n c m c' : Nat) (A B : Option Addr) (xs : List Nat) (R : List (List Int)) (w : World) (h : LI.Hd w b hb' R) (hby : by' < R.length) (hx : IRn w B xs) (hl : xs.length = m) (hm : m ≤ 1000) (hbt : ∀ i, i ∈ xs → i < R.length ∧ hkey R by' < hkey R i) :
    Calls Try.prog 35 #[.pointer (some ⟨b, 0, none⟩), .slice A n c, .slice B m c', .int .i64 by'] w fun e w' => e = .returned (.slice A n c) ∧ Below w.heap.size w w' := by
  have H := Lib.hid h; have HX := Lib.hid hx; have HB := Lib.hid hbt; have HL := Lib.hid hl
  clear h hx hbt hl
  go_enter Try.func35, Try.ntmps35
  go_wp2_with fail
  go_loopw [1, 13] (fun sv iv wr => ∃ k : Nat, k ≤ m ∧ sv = .slice A n c ∧ iv = .int .i64 k ∧ Below w.heap.size w wr) (fun _ iv _ => m - (intOf iv).toNat)
  case atStart => exact ⟨0, Nat.zero_le _, rfl, rfl, Below.refl _ _⟩
  case round =>
    obtain ⟨k, hk, rfl, rfl, hb⟩ := hrel
    by_cases hlt : k < m
    · obtain ⟨x, hx⟩ : ∃ x, xs[k]? = some x := ⟨_, List.getElem?_eq_getElem (by rw [HL.out]; exact hlt)⟩
      obtain ⟨g, o, rfl, hg, z1⟩ := HX.out.below hb k x hx
      obtain ⟨hxR, hxk⟩ := HB.out x (List.mem_of_getElem? hx)
      have BT := Lib.hid (LI.beats_any b hb' by' x R wr (H.out.below hb) hby hxR)
      have dk : decide (hkey R by' < hkey R x) = true := by rw [decide_eq_true_eq]; exact hxk
      rw [dk] at BT
      have B1 := Lib.hid hb
      have i1 : (k : Int) < (m : Int) := by omega
      clear hb hx hxR hxk dk
      go_wp2_with fail
      refine BT.out.mono ?_
      rintro e w2 ⟨rfl, b2⟩
      have B2 := Lib.hid (bstep B1.out b2)
      clear b2
      go_wp2_with fail
      go_roundw
      case rel => exact ⟨k + 1, by omega, rfl, by go_num, B2.out⟩
      case measure => simp [intOf]; omega
    · have i1 : decide ((k : Int) < (m : Int)) = false := by rw [decide_eq_false_iff_not]; omega
      have B1 := Lib.hid hb
      clear hb
      go_wp2_with fail
      go_ret
      exact ⟨rfl, B1.out⟩
theorem jn_cases {key : Nat → Int} {l r : List Nat} : (l = [] ∨ r = []) ∧ jn key l r = l ++ r ∨ ∃ x l' y r', l = x :: l' ∧ r = y :: r' ∧ (key y < key x ∧ jn key l r = r ∨ key x < key y ∧ jn key l r = l ∨ key x = key y ∧ jn key l r = l ++ r) := by
  match l, r with
  | [], r => left; exact ⟨Or.inl rfl, by rw [jn_nil_left]; rfl⟩
  | x :: l, [] => left; exact ⟨Or.inr rfl, by rw [jn_nil_right, List.append_nil]⟩
  | x :: l, y :: r =>
    right
    refine ⟨x, l, y, r, rfl, rfl, ?_⟩
    show _ ∧ (if key y < key x then y :: r else if key x < key y then x :: l else (x :: l) ++ (y :: r)) = _ ∨ _ ∧ (if key y < key x then y :: r else if key x < key y then x :: l else (x :: l) ++ (y :: r)) = _ ∨ _ ∧ (if key y < key x then y :: r else if key x < key y then x :: l else (x :: l) ++ (y :: r)) = _
    by_cases h : key y < key x
    · exact Or.inl ⟨h, by rw [if_pos h]⟩
    · by_cases h' : key x < key y
      · exact Or.inr (Or.inl ⟨h', by rw [if_neg h, if_pos h']⟩)
      · exact Or.inr (Or.inr ⟨by omega, by rw [if_neg h, if_neg h']⟩)
/-- What play leaves of a tree's nodes. -/
def Played (R : List (List Int)) (w : World) (G : Nat → Prop) (b : Nat) (fs : List Value) (L : Lay) (n : Nat) (xs : List Nat) : Ending → World → Prop := fun e w' =>
  e = .returned (.tuple #[]) ∧ ∃ G' A c, LI.In w' G' b fs R { L with N := L.N.set n ⟨A, c, xs⟩ } ∧ Keep (fun k => k = L.nb ∨ G k) w w' ∧ Sub G' G w
/-- What the last store of play leaves. -/
theorem LI.In.put {w w1 : World} {G : Nat → Prop} {b n c : Nat} {fs : List Value} {R : List (List Int)} {L : Lay} {e : Nd} {A : Option Addr} {xs : List Nat} (h : LI.In w G b fs R L) (he : L.N[n]? = some e) (g : Gr w w1 e.A A) (r : RowA w1 3 A c (ivals xs)) (hx : xs.length ≤ 1000 ∧ ∀ i, i ∈ xs → i < R.length) :
    Played R w G b fs L n xs (.returned (.tuple #[])) (w1.setCell ⟨L.nb, n, none⟩ (.slice A xs.length c)) := by
  have hGnb : ¬ G L.nb := fun q => (h.gs _ q).2.2.2.1 rfl
  obtain ⟨p1, p2, p3⟩ := h.nds.put he hGnb g r
  have n1 : b ≠ L.nb := arr_ne h.st h.nds.arr (by decide)
  have n2 : L.hb ≠ L.nb := arr_ne h.hand h.nds.arr (by decide)
  have kb : ∀ k, k ≠ L.nb → ¬ G k → k < w.heap.size → (w1.setCell ⟨L.nb, n, none⟩ (.slice A xs.length c)).heap[k]? = w.heap[k]? := fun k hk hk2 hk3 => p2.block k hk3 (fun q => q.elim hk hk2)
  have hGb : ¬ G b := fun q => (h.gs _ q).2.1 rfl
  have hGh : ¬ G L.hb := fun q => (h.gs _ q).2.2.1 rfl
  have hsA : ∀ a, L.sA = some a → ¬ G a.block ∧ a.block ≠ L.nb := fun a ha => ⟨fun q => (h.gs _ q).2.2.2.2 a ha rfl, by
    rcases h.src.parts with ⟨q, _⟩ | ⟨g, cur, q, q2, _⟩
    · rw [q] at ha; cases ha
    · rw [q] at ha; injection ha with ha; subst ha
      intro q3
      have q3 : g = L.nb := q3
      subst q3
      have := h.nds.arr
      unfold Arr at this
      rw [this] at q2
      injection q2 with q2
      injection q2 with _ q2
      exact absurd q2 (by decide)⟩
  refine ⟨rfl, _, A, c, ⟨Arr.same h.st (kb b n1 hGb (Arr.lt h.st)), h.src.same (fun a ha => kb _ (hsA a ha).2 (hsA a ha).1 (h.src.lt a ha)), Arr.same h.hand (kb _ n2 hGh (Arr.lt h.hand)), p1, fun k hk => ?_, by show (L.N.set n _).length = _; rw [List.length_set]; exact h.len, h.lens, h.fit, h.small, fun m e' he' => ?_⟩, p2, p3⟩
  · have hs := p2.size
    rcases p3 k hk with q | q
    · have := h.gs k q
      exact ⟨by omega, this.2⟩
    · refine ⟨?_, ?_, ?_, ?_, fun a ha => ?_⟩
      · rcases hk with hk | ⟨a, ha, rfl⟩
        · have := (h.gs k hk).1; omega
        · have := r.lt a ha; simpa [World.setCell] using this
      · have := Arr.lt h.st; omega
      · show k ≠ L.hb; have := Arr.lt h.hand; omega
      · show k ≠ L.nb; have := Arr.lt h.nds.arr; omega
      · have := h.src.lt a ha; omega
  · have he' : (L.N.set n ⟨A, c, xs⟩)[m]? = some e' := he'
    rw [List.getElem?_set] at he'
    by_cases q : n = m
    · rw [if_pos q] at he'
      split at he'
      · injection he' with he'
        subst he'
        exact hx
      · cases he'
    · rw [if_neg q] at he'
      exact h.ok m e' he'
end Go.Proofs.Ytimfmflnaehmgaa
