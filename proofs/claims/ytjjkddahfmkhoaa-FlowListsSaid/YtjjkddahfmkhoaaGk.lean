/-
  Package flow: Cursor over ints; copyIf; a join as data.
-/
import Derived.Test.YtjjkddahfmkhoaaGh
namespace Go.Proofs.Ytjjkddahfmkhoaa
set_option linter.unusedVariables false
set_option linter.unusedSimpArgs false
set_option maxRecDepth 100000
open Go.RowKit Go.Shelf
attribute [local go_sem] Oper.semAt_some

/-- What a cursor still has; its row lies in the blocks Bk. -/
def CurI (Bk : Nat → Prop) (w : World) (rb : Nat) (xs : List Int) : Prop := ∃ A n c, Arr w rb 24 [.slice A n c] ∧ (xs.length = n ∧ n ≤ c ∧ n ≤ 100000) ∧ IFw w A xs ∧ (∀ a, A = some a → Bk a.block)
theorem CurI.keep {Bk : Nat → Prop} {w w' : World} {rb : Nat} {xs : List Int} {F : Nat → Prop} (h : CurI Bk w rb xs) (k : Keep F w w') (h1 : ¬ F rb) (h2 : ∀ q, Bk q → ¬ F q) (h3 : Low Bk w) : CurI Bk w' rb xs := by
  obtain ⟨A, n, c, a, l, r, b⟩ := h
  exact ⟨A, n, c, a.keepF k h1, l, r.same (fun ad ha => k.block _ (h3 _ (b ad ha)) (h2 _ (b ad ha))) k.size, b⟩
theorem CurI.lt {Bk : Nat → Prop} {w : World} {rb : Nat} {xs : List Int} (h : CurI Bk w rb xs) : rb < w.heap.size := by
  obtain ⟨A, n, c, a, _⟩ := h
  exact Arr.lt a
set_option maxHeartbeats 1000000 in
theorem cursor_new (A : Option Addr) (n c : Nat) (xs : List Int) (w : World) (h : IFw w A xs) (hl : xs.length = n) (hn : n ≤ 100000) (hc : A = none → c = 0) :
    Calls Try.prog 30 #[.slice A n c] w fun e w' => ∃ rb A', e = .returned (.func (.func 56) #[] #[.pointer (some ⟨rb, 0, none⟩)]) ∧ CurI (Of A') w' rb xs ∧ (w.heap.size ≤ rb ∧ ∀ k, Of A' k → w.heap.size ≤ k ∧ k ≠ rb ∧ k < w'.heap.size) ∧ Below w.heap.size w w' := by
  have CL := Lib.hid (fclone_any A n c xs w h hl hn hc)
  have hmf := mk_fn
  have HL := Lib.hid hl
  clear h hl hc
  go_enter Try.func30, Try.ntmps30
  go_wp2_with fail
  refine CL.out.mono ?_
  rintro e w1 ⟨A', c', rfl, r1, f1, b1⟩
  have R1 := Lib.hid r1; have F1 := Lib.hid f1; have B1 := Lib.hid b1
  clear CL r1 f1 b1
  go_wp2_with fail
  go_ret
  refine ⟨w1.heap.size, A', rfl, ⟨A', n, c', Arr.new w1 _ [_], ⟨HL.out, ?_, hn⟩, (R1.out.below (balloc w1 _)).ifw, fun a ha => ⟨a, ha, rfl⟩⟩, ⟨B1.out.size, fun k hk => ?_⟩, B1.out.alloc B1.out.size _⟩
  · have := R1.out.cap.1; rw [fv_len, HL.out] at this; exact this
  · obtain ⟨a, ha, rfl⟩ := hk
    have := R1.out.lt a ha
    exact ⟨F1.out a ha, by omega, by simp; omega⟩
def CurE (Bk : Nat → Prop) (rb : Nat) (xs : List Int) (w : World) (e : Ending) (w' : World) : Prop := (xs = [] ∧ e = .returned (.tuple #[.int .i64 0, .bool false]) ∧ w' = w) ∨ (∃ x r, xs = x :: r ∧ e = .returned (.tuple #[.int .i64 x, .bool true]) ∧ CurI Bk w' rb r ∧ Keep (fun k => k = rb) w w')
set_option maxHeartbeats 1000000 in
theorem cursor_next (Bk : Nat → Prop) (rb : Nat) (xs : List Int) (w : World) (h : CurI Bk w rb xs) (hb : ¬ Bk rb) (hl : Low Bk w) :
    Calls Try.prog 56 #[.pointer (some ⟨rb, 0, none⟩)] w (CurE Bk rb xs w) := by
  obtain ⟨A, n, c, a, ⟨l1, l2, l3⟩, r, b⟩ := h
  have c0 : w.cell? ⟨rb, 0, none⟩ = some (.slice A n c) := a.cell 0
  have z0 := a.frozen 0
  rcases xs with _ | ⟨x, xs⟩
  · have hn : n = 0 := l1.symm
    subst hn
    clear a r b
    go_enter Try.func56, Try.ntmps56
    go_wp2
    go_ret2
    exact Or.inl ⟨rfl, rfl, rfl⟩
  · obtain ⟨g, o, rfl, hg, cx⟩ := r 0 x rfl
    rw [Nat.add_zero] at cx
    have hn : n = xs.length + 1 := l1.symm
    obtain ⟨m, hm⟩ : ∃ m, xs.length = m := ⟨_, rfl⟩
    rw [hm] at hn
    have AA := Lib.hid a; have RR := Lib.hid r; have BB := Lib.hid b; have HM := Lib.hid hm; have HN := Lib.hid hn
    have n1 : (n == 0) = false := by simp [hn]
    have n2 : 1 ≤ n := by omega
    clear a r b l1 hm
    go_enter Try.func56, Try.ntmps56
    go_wp2
    all_goals (
      go_ret2
      have k1 := Keep.set w rb 0)
    · have hm0 : m = 0 := by omega
      have hx : xs = [] := List.eq_nil_of_length_eq_zero (by rw [HM.out]; exact hm0)
      refine Or.inr ⟨x, xs, rfl, rfl, ⟨_, _, _, AA.out.set 0 _, ⟨HM.out, by omega, by omega⟩, ?_, BB.out⟩, k1 _⟩
      rw [hx]
      intro k y hy
      simp at hy
    · refine Or.inr ⟨x, xs, rfl, rfl, ⟨_, _, _, AA.out.set 0 _, ⟨HM.out, by omega, by omega⟩, ?_, ?_⟩, k1 _⟩
      · intro k y hy
        obtain ⟨g', o', e, h1, h2⟩ := RR.out (k + 1) y (by simpa using hy)
        injection e with e
        injection e with e1 e2
        subst e1 e2
        refine ⟨g, o + 1, by first | rfl | simp [Addr.add], by rw [fset_size]; exact h1, ?_⟩
        rw [World.cell?_of_block (w := w) (a := ⟨g, o + 1 + k, none⟩) (heap_setCell_other w _ g _ (fun e => hb (by have e : g = rb := e; rw [← e]; exact BB.out _ rfl))), ← h2]
        congr 2
        omega
      · intro a ha
        injection ha with ha
        subst ha
        first | exact BB.out ⟨g, o, none⟩ rfl | (have h := BB.out ⟨g, o, none⟩ rfl; simpa [Addr.add] using h)
/-- A copy of what was found. -/
theorem copyif_any (f : Bool) (x : Int) (w : World) : Calls Try.prog 59 #[.bool f, .int .i64 x] w fun e w' => ∃ p : Option Addr, e = .returned (.pointer p) ∧ (f = false → p = none) ∧ (f = true → ∃ q, p = some ⟨q, 0, none⟩ ∧ w.heap.size ≤ q ∧ Arr w' q 3 [.int .i64 x]) ∧ Below w.heap.size w w' := by
  cases f with
  | false =>
    go_enter Try.func59, Try.ntmps59
    go_wp2
    go_ret
    exact ⟨none, rfl, fun _ => rfl, fun h => (by cases h), balloc w _⟩
  | true =>
    go_enter Try.func59, Try.ntmps59
    go_wp2
    go_ret
    exact ⟨some ⟨w.heap.size, 0, none⟩, rfl, fun h => (by cases h), fun _ => ⟨w.heap.size, rfl, Nat.le_refl _, Arr.new w _ [_]⟩, balloc w _⟩
/-- below: -1, 0, 1. -/
def cmpI (a b : Int) : Int := if a < b then -1 else if a > b then 1 else 0
theorem below_any (a b : Int) (w : World) : Calls Try.prog 32 #[.int .i64 a, .int .i64 b] w fun e w' => e = .returned (.int .i64 (cmpI a b)) ∧ w' = w := by
  obtain ⟨r, hr⟩ : ∃ r, cmpI a b = r := ⟨_, rfl⟩
  rw [hr]
  unfold cmpI at hr
  by_cases h1 : a < b
  · have i1 : decide (a < b) = true := by rw [decide_eq_true_eq]; exact h1
    rw [if_pos h1] at hr
    subst hr
    go_enter Try.func32, Try.ntmps32
    go_wp2
    go_ret
    exact ⟨rfl, rfl⟩
  · have i1 : decide (a < b) = false := by rw [decide_eq_false_iff_not]; exact h1
    rw [if_neg h1] at hr
    by_cases h2 : b < a
    · have i2 : decide (b < a) = true := by rw [decide_eq_true_eq]; exact h2
      have i3 : decide (a > b) = true := i2
      rw [if_pos h2] at hr
      subst hr
      go_enter Try.func32, Try.ntmps32
      go_wp2
      go_ret
      exact ⟨rfl, rfl⟩
    · have i2 : decide (b < a) = false := by rw [decide_eq_false_iff_not]; exact h2
      have i3 : decide (a > b) = false := i2
      rw [if_neg h2] at hr
      subst hr
      go_enter Try.func32, Try.ntmps32
      go_wp2
      go_ret
      exact ⟨rfl, rfl⟩
theorem join_new (fn : Fn) (p q : Array Value) (fn' : Fn) (p' q' : Array Value) (fn2 : Fn) (p2 q2 : Array Value) (w : World) : Calls Try.prog 31 #[.func fn p q, .func fn' p' q', .func fn2 p2 q2] w fun e w' => e = .returned (.func (.func 58) #[] #[.pointer (some ⟨w.heap.size, 0, none⟩), .pointer (some ⟨w.heap.size + 1, 0, none⟩), .pointer (some ⟨w.heap.size + 2, 0, none⟩)]) ∧ (Arr w' w.heap.size 29 [.func fn p q] ∧ Arr w' (w.heap.size + 1) 54 [.func fn' p' q'] ∧ Arr w' (w.heap.size + 2) 47 [.func fn2 p2 q2]) ∧ Below w.heap.size w w' ∧ w'.heap.size = w.heap.size + 3 := by
  have en : ∀ W, (binOp .eql 54 (.func fn' p' q') .nilFunc).run Try.prog W = .ok (.bool false) W := by
    have h : ∃ a b c, Try.prog.underlying 54 = some (.func a b c) := ⟨_, _, _, Try.underlying54⟩
    obtain ⟨a, b, c, h⟩ := h
    exact ffn_nil _ a b c h fn' p' q'
  have en2 : ∀ W, (binOp .eql 47 (.func fn2 p2 q2) .nilFunc).run Try.prog W = .ok (.bool false) W := by
    have h : ∃ a b c, Try.prog.underlying 47 = some (.func a b c) := ⟨_, _, _, Try.underlying47⟩
    obtain ⟨a, b, c, h⟩ := h
    exact ffn_nil _ a b c h fn2 p2 q2
  have hmf := mk_fn
  go_enter Try.func31, Try.ntmps31
  go_wp2_with fail
  go_ret
  obtain ⟨w1, hw1⟩ : ∃ w1, w1 = w.alloc (.cells #[.func fn p q] 29) := ⟨_, rfl⟩
  obtain ⟨w2, hw2⟩ : ∃ w2, w2 = w1.alloc (.cells #[.func fn' p' q'] 54) := ⟨_, rfl⟩
  have s1 : w1.heap.size = w.heap.size + 1 := by rw [hw1]; simp
  have s2 : w2.heap.size = w.heap.size + 2 := by rw [hw2]; simp [s1]
  have a1 : Arr w1 w.heap.size 29 [.func fn p q] := by rw [hw1]; exact Arr.new w _ [_]
  have a2 : Arr w2 (w.heap.size + 1) 54 [.func fn' p' q'] := by rw [hw2, ← s1]; exact Arr.new w1 _ [_]
  have b1 : Below w1.heap.size w1 w2 := by rw [hw2]; exact balloc _ _
  have b0 : Below w.heap.size w w1 := by rw [hw1]; exact balloc _ _
  rw [← hw1, ← hw2]
  refine ⟨rfl, ⟨(a1.below b1).below (balloc _ _), a2.below (balloc _ _), ?_⟩, (b0.trans (b1.mono b0.size)).trans ((balloc w2 _).mono (by omega)), by simp [s2]⟩
  rw [← s2]
  exact Arr.new w2 _ [_]
/-- What is left at a join's other side behind the rows pre, the one at hand first. -/
def jrem (bs pre : List Int) : List Int := pre.foldl (fun rem a => rem.dropWhile (fun b => decide (0 < cmpI a b))) bs
def jfind (bs pre : List Int) (a : Int) : Option Int :=
  match jrem bs (pre ++ [a]) with
  | [] => none
  | b :: _ => if cmpI a b = 0 then some b else none
theorem jrem_snoc (bs pre : List Int) (a : Int) : jrem bs (pre ++ [a]) = (jrem bs pre).dropWhile (fun b => decide (0 < cmpI a b)) := by unfold jrem; rw [List.foldl_append]; rfl
/-- A row of a join: a, and where its like lies. -/
structure Jp where
  a : Int
  p : Option Addr
def encJ (x : Jp) : Array Value := #[.int .i64 x.a, .pointer x.p]
def JpAt (bs pre : List Int) (W : World) (x : Jp) : Prop := match jfind bs pre x.a with
  | none => x.p = none
  | some b => ∃ q, x.p = some ⟨q, 0, none⟩ ∧ Arr W q 3 [.int .i64 b]
theorem JpAt.keep {bs pre : List Int} {W W' : World} {x : Jp} {F : Nat → Prop} (h : JpAt bs pre W x) (k : Keep F W W') (hF : ∀ q, Of x.p q → ¬ F q) : JpAt bs pre W' x := by
  unfold JpAt at h ⊢
  cases hj : jfind bs pre x.a with
  | none => rw [hj] at h; exact h
  | some b =>
    rw [hj] at h
    obtain ⟨q, h1, h2⟩ := h
    exact ⟨q, h1, h2.keepF k (hF q ⟨_, h1, rfl⟩)⟩
end Go.Proofs.Ytjjkddahfmkhoaa
