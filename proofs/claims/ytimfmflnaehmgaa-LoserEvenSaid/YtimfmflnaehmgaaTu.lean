/-
  A tree of losers in memory, over things of three ints.
-/
import Derived.Test.YtimfmflnaehmgaaLo
namespace Go.Proofs.Ytimfmflnaehmgaa
set_option linter.unusedVariables false
set_option linter.unusedSimpArgs false
set_option maxRecDepth 100000
open Go.RowKit

/-- Things of three ints; a source's and what it has at hand: the first of its row. -/
abbrev Th := Int × Int × Int
def thv (x : Th) : List Value := [.int .i64 x.1, .int .i64 x.2.1, .int .i64 x.2.2]
def thz : Th := (0, 0, 0)
def thd (R : List (List Th)) (i : Nat) : Th := (R.getD i []).headD thz
def tkey (R : List (List Th)) (i : Nat) : Int := (thd R i).1
def tlive (R : List (List Th)) (i : Nat) : Bool := !(R.getD i []).isEmpty
def tvals (R : List (List Th)) : List Value := R.flatMap (fun r => thv (r.headD thz))
def tlives (R : List (List Th)) : Nat := (R.filter (fun r => !r.isEmpty)).length
theorem flat3 {α : Type} (f : α → List Value) (hf : ∀ a, (f a).length = 3) : ∀ (l : List α) (i : Nat) (a : α), l[i]? = some a → ∀ j, j < 3 → (l.flatMap f)[i * 3 + j]? = (f a)[j]?
  | [], i, a, h, j, hj => by simp at h
  | b :: l, 0, a, h, j, hj => by
    have h : b = a := by simpa using h
    subst h
    rw [List.flatMap_cons, Nat.zero_mul, Nat.zero_add, List.getElem?_append_left (by rw [hf]; exact hj)]
  | b :: l, i + 1, a, h, j, hj => by
    rw [List.flatMap_cons, List.getElem?_append_right (by rw [hf, Nat.add_mul]; omega), hf, show (i + 1) * 3 + j - 3 = i * 3 + j by rw [Nat.add_mul]; omega]
    exact flat3 f hf l i a (by simpa using h) j hj
theorem tvals_at {R : List (List Th)} {i : Nat} (h : i < R.length) (j : Nat) (hj : j < 3) : (tvals R)[i * 3 + j]? = (thv (thd R i))[j]? := by
  unfold tvals thd
  rw [flat3 _ (fun _ => rfl) R i _ (List.getElem?_eq_getElem h) j hj, List.getD_eq_getElem?_getD, List.getElem?_eq_getElem h]; rfl
theorem tvals_cell {w : World} {hb i : Nat} {R : List (List Th)} {t : TypeId} (a : Arr w hb t (tvals R)) (h : i < R.length) : w.cell? ⟨hb, i * 3, none⟩ = some (.int .i64 (thd R i).1) ∧ w.cell? ⟨hb, i * 3 + 1, none⟩ = some (.int .i64 (thd R i).2.1) ∧ w.cell? ⟨hb, i * 3 + 2, none⟩ = some (.int .i64 (thd R i).2.2) := by
  refine ⟨?_, ?_, ?_⟩
  · rw [Arr.cell a]; exact tvals_at h 0 (by decide)
  · rw [Arr.cell a]; exact tvals_at h 1 (by decide)
  · rw [Arr.cell a]; exact tvals_at h 2 (by decide)
theorem tlive_lt {R : List (List Th)} {i : Nat} (h : tlive R i = true) : i < R.length := by
  rcases Nat.lt_or_ge i R.length with q | q
  · exact q
  · unfold tlive at h
    rw [List.getD_eq_getElem?_getD, List.getElem?_eq_none q] at h
    simp at h
def LT.fv : Value := .func (.func 17) #[] #[]
/-- A tree in block b, over the sources fs; R: what each has at hand, and behind it. -/
structure LT.In (w : World) (G : Nat → Prop) (b : Nat) (fs : List Value) (R : List (List Th)) (L : Lay) : Prop where
  st : Arr w b 61 [LT.fv, .slice L.sA fs.length L.sc, .slice (some ⟨L.hb, 0, none⟩) R.length R.length, .int .i64 (L.lv : Int), .slice (some ⟨L.nb, 0, none⟩) (2 * 2 ^ L.d) (2 * 2 ^ L.d)]
  src : RowA w 47 L.sA L.sc fs
  hand : Arr w L.hb 46 (tvals R)
  nds : Nds w G L.nb L.N
  gs : ∀ k, G k → k < w.heap.size ∧ k ≠ b ∧ k ≠ L.hb ∧ k ≠ L.nb ∧ ∀ a, L.sA = some a → k ≠ a.block
  len : L.N.length = 2 * 2 ^ L.d
  lens : fs.length = R.length
  fit : R.length ≤ 2 ^ L.d
  small : 2 ^ L.d ≤ 1000
  ok : ∀ (m : Nat) (e : Nd), L.N[m]? = some e → e.xs.length ≤ 1000 ∧ ∀ i, i ∈ e.xs → i < R.length
theorem LT.In.below {w w' : World} {G : Nat → Prop} {b : Nat} {fs : List Value} {R : List (List Th)} {L : Lay} (h : LT.In w G b fs R L) (k : Below w.heap.size w w') : LT.In w' G b fs R L := by
  have hs := k.size
  exact ⟨Arr.below h.st k, h.src.below k, Arr.below h.hand k, h.nds.keep (Keep.of_below (F := fun _ => False) k) (fun q => q) (fun _ _ q => q), fun k hk => ⟨by have := (h.gs k hk).1; omega, (h.gs k hk).2⟩, h.len, h.lens, h.fit, h.small, h.ok⟩
theorem LT.less_any (x y : Th) (w : World) : Calls Try.prog 17 #[.agg #[.int .i64 x.1, .int .i64 x.2.1, .int .i64 x.2.2], .agg #[.int .i64 y.1, .int .i64 y.2.1, .int .i64 y.2.2]] w fun e w' => e = .returned (.bool (decide (x.1 < y.1))) ∧ Below w.heap.size w w' := by
  go_enter Try.func17, Try.ntmps17
  go_wp2
  go_ret
  exact ⟨rfl, below_alloc (below_alloc (Below.refl _ _) _) _⟩
/-- What a match asks of a tree. -/
structure LT.Hd (w : World) (b hb : Nat) (R : List (List Th)) : Prop where
  c0 : w.cell? ⟨b, 0, none⟩ = some LT.fv
  c2 : w.cell? ⟨b, 2, none⟩ = some (.slice (some ⟨hb, 0, none⟩) R.length R.length)
  lt : b < w.heap.size
  hand : Arr w hb 46 (tvals R)
  small : R.length ≤ 1000
theorem LT.In.hd {w : World} {G : Nat → Prop} {b : Nat} {fs : List Value} {R : List (List Th)} {L : Lay} (h : LT.In w G b fs R L) : LT.Hd w b L.hb R :=
  ⟨Arr.cell h.st 0, Arr.cell h.st 2, Arr.lt h.st, h.hand, Nat.le_trans h.fit h.small⟩
theorem LT.Hd.same {w w' : World} {b hb : Nat} {R : List (List Th)} (h : LT.Hd w b hb R) (k : w'.heap[b]? = w.heap[b]?) (k2 : w'.heap[hb]? = w.heap[hb]?) (hs : w.heap.size ≤ w'.heap.size) : LT.Hd w' b hb R :=
  ⟨by rw [World.cell?_of_block (w := w) (a := ⟨b, 0, none⟩) k]; exact h.c0, by rw [World.cell?_of_block (w := w) (a := ⟨b, 2, none⟩) k]; exact h.c2, Nat.lt_of_lt_of_le h.lt hs, Arr.same h.hand k2, h.small⟩
theorem LT.Hd.below {w w' : World} {b hb : Nat} {R : List (List Th)} (h : LT.Hd w b hb R) (k : Below w.heap.size w w') : LT.Hd w' b hb R := h.same (k.block b h.lt) (k.block hb (Arr.lt h.hand)) k.size
/-- Does what source i has at hand beat what source j has? -/
theorem LT.beats_any (b hb i j : Nat) (R : List (List Th)) (w : World) (h : LT.Hd w b hb R) (hi : i < R.length) (hj : j < R.length) :
    Calls Try.prog 39 #[.pointer (some ⟨b, 0, none⟩), .int .i64 i, .int .i64 j] w fun e w' => e = .returned (.bool (decide (tkey R i < tkey R j))) ∧ Below w.heap.size w w' := by
  have c0 := h.c0
  have c2 := h.c2
  obtain ⟨h1, h1b, h1c⟩ := tvals_cell h.hand hi
  obtain ⟨h2, h2b, h2c⟩ := tvals_cell h.hand hj
  have hR := h.small
  have LS := Lib.hid (fun w2 => LT.less_any (thd R i) (thd R j) w2)
  obtain ⟨k, hk⟩ : ∃ k, R.length = k := ⟨_, rfl⟩
  rw [show tkey R i = (thd R i).1 from rfl, show tkey R j = (thd R j).1 from rfl]
  obtain ⟨x, hx⟩ : ∃ x, thd R i = x := ⟨_, rfl⟩
  obtain ⟨y, hy⟩ : ∃ y, thd R j = y := ⟨_, rfl⟩
  rw [hk] at hi hj hR c2
  rw [hx, hy] at LS ⊢
  rw [hx] at h1 h1b h1c; rw [hy] at h2 h2b h2c
  have i1 : (i : Int) < (k : Int) := by omega
  have i2 : (j : Int) < (k : Int) := by omega
  clear h hk hx hy
  unfold LT.fv at c0
  go_enter Try.func39, Try.ntmps39
  go_wp2_with fail
  go_still_tail 18, (by kernel_rfl)
  change wpList _ _ _ _ _ w.drew
  have BD : Hid (Below w.heap.size w w.drew) := Lib.hid (Below.refl _ _).drew
  go_wp2_with fail
  refine (LS.out _).mono ?_
  rintro e2 w2 ⟨rfl, b2⟩
  have B2 : Hid (Below w.heap.size w w2) := Lib.hid (bstep BD.out b2)
  clear b2
  go_wp2_with fail
  go_ret
  exact ⟨rfl, B2.out⟩
end Go.Proofs.Ytimfmflnaehmgaa
