/-
  A catalog as plain data, and its leaf. Maths alone.
  A store as plain data: what a leaf of the disk is, a step along a chain, the chain. Maths alone.
-/
import Derived.Test.YtilmicekpclmbaaZa
import Derived.Test.YtilmicekpclmbaaZb
import Derived.Test.YtilmicekpclmbaaDk
namespace Go.Proofs.Ytilmicekpclmbaa
set_option linter.unusedVariables false
set_option linter.unusedSimpArgs false

structure Fl where
  name : Int
  file : Int
  first : Int
  blocks : Int
structure Cd where
  frm : Int
  to_ : Int
  budget : Int
  fan : Int
structure Ct where
  gen : Int
  step : Int
  status : Int
  ended : Bool
  card : Cd
  files : List Fl
def Fl.zero : Fl := ⟨0, 0, 0, 0⟩
def Cd.zero : Cd := ⟨0, 0, 0, 0⟩
def Ct.zero : Ct := ⟨0, 0, 0, false, Cd.zero, []⟩
theorem Fl.ext' {a b : Fl} (h1 : a.name = b.name) (h2 : a.file = b.file) (h3 : a.first = b.first) (h4 : a.blocks = b.blocks) : a = b := by
  cases a; cases b; simp only at h1 h2 h3 h4; rw [h1, h2, h3, h4]
theorem Cd.ext' {a b : Cd} (h1 : a.frm = b.frm) (h2 : a.to_ = b.to_) (h3 : a.budget = b.budget) (h4 : a.fan = b.fan) : a = b := by
  cases a; cases b; simp only at h1 h2 h3 h4; rw [h1, h2, h3, h4]
structure Fl.Right (q : Fl) : Prop where
  n : 1 ≤ q.name ∧ q.name ≤ 255
  f : 1 ≤ q.file ∧ q.file ≤ 65535
  b : 0 ≤ q.blocks ∧ q.blocks ≤ 512
  x : 0 ≤ q.first ∧ q.first ≤ 65535
  z : q.blocks = 0 ↔ q.first = 0
structure Cd.Right (q : Cd) : Prop where
  a : 0 ≤ q.frm
  b : q.frm ≤ q.to_
  c : q.to_ ≤ 1073741824
  d : 2 ≤ q.budget ∧ q.budget ≤ 64
  e : 2 ≤ q.fan ∧ q.fan ≤ 16
def flAt (l : List Fl) (i : Nat) : Fl := l.getD i Fl.zero
structure Ct.Right (c : Ct) : Prop where
  g : 0 ≤ c.gen ∧ c.gen ≤ 1000
  s : 0 ≤ c.step ∧ c.step ≤ 20
  t : 0 ≤ c.status ∧ c.status ≤ 7
  e : c.ended = false → c.status = 0
  k : c.card = Cd.zero ∨ c.card.Right
  m : c.files.length ≤ 14
  f : ∀ i, i < c.files.length → (flAt c.files i).Right
  r : ∀ i, i + 1 < c.files.length → (flAt c.files i).name < (flAt c.files (i + 1)).name
theorem Ct.zero_right : Ct.zero.Right := ⟨by decide, by decide, by decide, fun _ => rfl, Or.inl rfl, by decide, fun i hi => absurd hi (by show ¬ i < 0; omega), fun i hi => absurd hi (by show ¬ i + 1 < 0; omega)⟩
/-- Its card's numbers, whether there is one or not. -/
theorem Ct.Right.card {c : Ct} (h : c.Right) : (0 ≤ c.card.frm ∧ c.card.frm ≤ 1073741824) ∧ (0 ≤ c.card.to_ ∧ c.card.to_ ≤ 1073741824) ∧ (0 ≤ c.card.budget ∧ c.card.budget ≤ 64) ∧ (0 ≤ c.card.fan ∧ c.card.fan ≤ 16) := by
  rcases h.k with e | e
  · rw [e]; decide
  · have := e.a; have := e.b; have := e.c; have := e.d; have := e.e
    omega
def by4 (n : Int) : List Int := [n % 256, n / 256 % 256, n / 65536 % 256, n / 16777216 % 256]
def bit01 (b : Bool) : Int := if b then 1 else 0
def Ct.head (c : Ct) : List Int := by4 c.gen ++ ([c.step, c.status, bit01 c.ended, c.card.budget, c.card.fan] ++ (by4 c.card.frm ++ by4 c.card.to_))
def Fl.bytes (f : Fl) : List Int := f.name :: (le2 f.file ++ (le2 f.first ++ le2 f.blocks))
def flBytes (l : List Fl) : List Int := l.flatMap Fl.bytes
def Ct.bytes (c : Ct) : List Int := c.head ++ flBytes c.files
theorem Ct.head_len (c : Ct) : c.head.length = 17 := rfl
theorem Fl.bytes_len (f : Fl) : f.bytes.length = 7 := rfl
theorem flBytes_len : ∀ (l : List Fl), (flBytes l).length = 7 * l.length
  | [] => rfl
  | f :: r => by
    show (f.bytes ++ flBytes r).length = _
    rw [List.length_append, flBytes_len r, f.bytes_len, List.length_cons]; omega
theorem Ct.bytes_len (c : Ct) : c.bytes.length = 17 + 7 * c.files.length := by unfold Ct.bytes; rw [List.length_append, c.head_len, flBytes_len]
theorem flBytes_at : ∀ (l : List Fl) (i j : Nat), i < l.length → j < 7 → (flBytes l).getD (7 * i + j) 0 = (flAt l i).bytes.getD j 0
  | [], i, j, hi, _ => absurd hi (by simp)
  | f :: r, 0, j, _, hj => by
    show (f.bytes ++ flBytes r).getD (7 * 0 + j) 0 = _
    rw [getD_app, f.bytes_len, if_pos (by omega), Nat.mul_zero, Nat.zero_add]
    rfl
  | f :: r, i + 1, j, hi, hj => by
    show (f.bytes ++ flBytes r).getD (7 * (i + 1) + j) 0 = _
    rw [getD_app, f.bytes_len, if_neg (by omega)]
    have e : 7 * (i + 1) + j - 7 = 7 * i + j := by omega
    rw [e, flBytes_at r i j (by simpa using hi) hj]
    rfl
/-- The leaf that a right catalog makes. -/
def Ct.leaf (c : Ct) : Lf := ⟨2, 0, 0, 0, c.bytes.length, c.bytes ++ zeros (116 - c.bytes.length)⟩
theorem zeros_at (n k : Nat) : (zeros n).getD k 0 = 0 := by
  unfold zeros
  rw [List.getD_eq_getElem?_getD, List.getElem?_replicate]
  split <;> rfl
theorem by4_u8 (n : Int) (k : Nat) (hk : k < 4) : U8 ((by4 n).getD k 0) := by
  have : k = 0 ∨ k = 1 ∨ k = 2 ∨ k = 3 := by omega
  unfold by4 U8
  rcases this with rfl | rfl | rfl | rfl
  · show 0 ≤ n % 256 ∧ n % 256 ≤ 255; omega
  · show 0 ≤ n / 256 % 256 ∧ n / 256 % 256 ≤ 255; omega
  · show 0 ≤ n / 65536 % 256 ∧ n / 65536 % 256 ≤ 255; omega
  · show 0 ≤ n / 16777216 % 256 ∧ n / 16777216 % 256 ≤ 255; omega
theorem Ct.head_u8 {c : Ct} (h : c.Right) (k : Nat) (hk : k < 17) : U8 (c.head.getD k 0) := by
  obtain ⟨h1, h2, h3, h4⟩ := h.card
  have hs := h.s; have ht := h.t
  unfold Ct.head
  rw [getD_app]
  split
  · exact by4_u8 _ _ (by assumption)
  · rename_i h4'
    have h4' : ¬ k < 4 := h4'
    show U8 (([c.step, c.status, bit01 c.ended, c.card.budget, c.card.fan] ++ (by4 c.card.frm ++ by4 c.card.to_)).getD (k - 4) 0)
    rw [getD_app]
    split
    · rename_i h5
      have h5 : k - 4 < 5 := h5
      have : k = 4 ∨ k = 5 ∨ k = 6 ∨ k = 7 ∨ k = 8 := by omega
      unfold U8
      rcases this with rfl | rfl | rfl | rfl | rfl
      · show 0 ≤ c.step ∧ c.step ≤ 255; omega
      · show 0 ≤ c.status ∧ c.status ≤ 255; omega
      · show 0 ≤ bit01 c.ended ∧ bit01 c.ended ≤ 255; unfold bit01; split <;> omega
      · show 0 ≤ c.card.budget ∧ c.card.budget ≤ 255; omega
      · show 0 ≤ c.card.fan ∧ c.card.fan ≤ 255; omega
    · rename_i h5
      have h5 : ¬ k - 4 < 5 := h5
      show U8 ((by4 c.card.frm ++ by4 c.card.to_).getD (k - 4 - 5) 0)
      rw [getD_app]
      split
      · exact by4_u8 _ _ (by assumption)
      · rename_i h6
        have h6 : ¬ k - 4 - 5 < 4 := h6
        exact by4_u8 _ _ (by show k - 4 - 5 - 4 < 4; omega)
theorem Fl.bytes_u8 {f : Fl} (h : f.Right) (j : Nat) (hj : j < 7) : U8 (f.bytes.getD j 0) := by
  have hn := h.n
  unfold Fl.bytes le2 U8
  have : j = 0 ∨ j = 1 ∨ j = 2 ∨ j = 3 ∨ j = 4 ∨ j = 5 ∨ j = 6 := by omega
  rcases this with rfl | rfl | rfl | rfl | rfl | rfl | rfl
  · show 0 ≤ f.name ∧ f.name ≤ 255; omega
  · show 0 ≤ f.file % 256 ∧ f.file % 256 ≤ 255; omega
  · show 0 ≤ f.file / 256 % 256 ∧ f.file / 256 % 256 ≤ 255; omega
  · show 0 ≤ f.first % 256 ∧ f.first % 256 ≤ 255; omega
  · show 0 ≤ f.first / 256 % 256 ∧ f.first / 256 % 256 ≤ 255; omega
  · show 0 ≤ f.blocks % 256 ∧ f.blocks % 256 ≤ 255; omega
  · show 0 ≤ f.blocks / 256 % 256 ∧ f.blocks / 256 % 256 ≤ 255; omega
theorem flBytes_u8 {l : List Fl} (h : ∀ i, i < l.length → (flAt l i).Right) (k : Nat) (hk : k < 7 * l.length) : U8 ((flBytes l).getD k 0) := by
  have e : k = 7 * (k / 7) + k % 7 := by omega
  rw [e, flBytes_at l (k / 7) (k % 7) (by omega) (by omega)]
  exact Fl.bytes_u8 (h _ (by omega)) _ (by omega)
theorem Ct.bytes_u8 {c : Ct} (h : c.Right) (k : Nat) (hk : k < c.bytes.length) : U8 (c.bytes.getD k 0) := by
  rw [c.bytes_len] at hk
  unfold Ct.bytes
  rw [getD_app, c.head_len]
  split
  · exact Ct.head_u8 h k (by assumption)
  · exact flBytes_u8 h.f _ (by omega)
theorem Ct.leaf_load_len {c : Ct} (h : c.Right) : c.leaf.load.length = 116 := by
  have := h.m
  show (c.bytes ++ zeros (116 - c.bytes.length)).length = 116
  rw [List.length_append, zeros_length, c.bytes_len]; omega
theorem Ct.leaf_ok {c : Ct} (h : c.Right) : c.leaf.Ok := by
  have hm := h.m
  have hl := c.bytes_len
  refine ⟨by show _ ≤ (2 : Int) ∧ (2 : Int) ≤ _; decide, by show _ ≤ (0 : Int) ∧ (0 : Int) ≤ _; decide, by show _ ≤ (0 : Int) ∧ (0 : Int) ≤ _; decide, by show _ ≤ (0 : Int) ∧ (0 : Int) ≤ _; decide, by show _ ≤ (c.bytes.length : Int) ∧ (c.bytes.length : Int) ≤ _; omega, Ct.leaf_load_len h, fun j hj => ?_⟩
  show U8 ((c.bytes ++ zeros (116 - c.bytes.length)).getD j 0)
  rw [getD_app]
  split
  · exact Ct.bytes_u8 h j (by assumption)
  · rw [zeros_at]; exact ⟨by decide, by decide⟩
theorem Ct.leaf_right {c : Ct} (h : c.Right) : c.leaf.Right := by
  have hm := h.m
  have hl := c.bytes_len
  refine ⟨Or.inr rfl, by show (0 : Int) ≤ 0 ∧ (0 : Int) ≤ 65535; decide, by show (0 : Int) ≤ 0 ∧ (0 : Int) ≤ 65535; decide, by show (0 : Int) ≤ 0 ∧ (0 : Int) ≤ 65535; decide, by show 0 ≤ (c.bytes.length : Int) ∧ (c.bytes.length : Int) ≤ 116; omega, fun j h0 h1 => ?_⟩
  have h0 : (c.bytes.length : Int) ≤ j := h0
  show (c.bytes ++ zeros (116 - c.bytes.length)).getD j 0 = 0
  rw [getD_app, if_neg (by omega), zeros_at]
/-- What a leaf's bytes say. -/
def num4 (b : List Int) (k : Nat) : Int := b.getD k 0 + 256 * b.getD (k + 1) 0 + 65536 * b.getD (k + 2) 0 + 16777216 * b.getD (k + 3) 0
def num2 (b : List Int) (k : Nat) : Int := b.getD k 0 + 256 * b.getD (k + 1) 0
def unFl (b : List Int) (k : Nat) : Fl := ⟨b.getD k 0, num2 b (k + 1), num2 b (k + 3), num2 b (k + 5)⟩
def unCt (L : Lf) : Ct := ⟨num4 L.load 0, L.load.getD 4 0, L.load.getD 5 0, L.load.getD 6 0 == 1, ⟨num4 L.load 9, num4 L.load 13, L.load.getD 7 0, L.load.getD 8 0⟩, (List.range ((L.size.toNat - 17) / 7)).map (fun i => unFl L.load (17 + 7 * i))⟩
structure Lf.IsCt (L : Lf) : Prop where
  r : L.Right
  k : L.kind = 2
  f : L.file = 0
  p : L.place = 0
  n : L.next = 0
  s : 17 ≤ L.size
  m : (L.size - 17) % 7 = 0
  b : L.load.getD 6 0 ≤ 1
  c : (unCt L).Right
open Classical in
noncomputable def getCt (L : Lf) : Option Ct := if L.IsCt then some (unCt L) else none
theorem by4_num {n : Int} (h0 : 0 ≤ n) (h1 : n ≤ 4294967295) : n % 256 + 256 * (n / 256 % 256) + 65536 * (n / 65536 % 256) + 16777216 * (n / 16777216 % 256) = n := by omega
theorem Ct.leaf_at (c : Ct) (k : Nat) (hk : k < c.bytes.length) : c.leaf.load.getD k 0 = c.bytes.getD k 0 := by
  show (c.bytes ++ zeros (116 - c.bytes.length)).getD k 0 = _
  rw [getD_app, if_pos hk]
theorem Ct.leaf_head (c : Ct) (k : Nat) (hk : k < 17) : c.leaf.load.getD k 0 = c.head.getD k 0 := by
  rw [c.leaf_at k (by rw [c.bytes_len]; omega)]
  unfold Ct.bytes
  rw [getD_app, c.head_len, if_pos hk]
theorem Ct.leaf_file (c : Ct) (i j : Nat) (hi : i < c.files.length) (hj : j < 7) : c.leaf.load.getD (17 + 7 * i + j) 0 = (flAt c.files i).bytes.getD j 0 := by
  rw [c.leaf_at _ (by rw [c.bytes_len]; omega)]
  unfold Ct.bytes
  rw [getD_app, c.head_len, if_neg (by omega)]
  have e : 17 + 7 * i + j - 17 = 7 * i + j := by omega
  rw [e, flBytes_at _ _ _ hi hj]
theorem unFl_leaf {c : Ct} (h : c.Right) (i : Nat) (hi : i < c.files.length) : unFl c.leaf.load (17 + 7 * i) = flAt c.files i := by
  obtain ⟨_, ⟨f0, f1⟩, ⟨b0, b1⟩, ⟨x0, x1⟩, _⟩ := h.f i hi
  have e := fun j hj => c.leaf_file i j hi hj
  have e0 := e 0 (by decide); have e1 := e 1 (by decide); have e2 := e 2 (by decide); have e3 := e 3 (by decide); have e4 := e 4 (by decide); have e5 := e 5 (by decide); have e6 := e 6 (by decide)
  generalize flAt c.files i = f at *
  refine Fl.ext' ?_ ?_ ?_ ?_
  · show c.leaf.load.getD (17 + 7 * i) 0 = f.name; exact e0
  · show c.leaf.load.getD (17 + 7 * i + 1) 0 + 256 * c.leaf.load.getD (17 + 7 * i + 2) 0 = f.file
    rw [e1, e2]
    show f.file % 256 + 256 * (f.file / 256 % 256) = f.file
    omega
  · show c.leaf.load.getD (17 + 7 * i + 3) 0 + 256 * c.leaf.load.getD (17 + 7 * i + 4) 0 = f.first
    rw [e3, e4]
    show f.first % 256 + 256 * (f.first / 256 % 256) = f.first
    omega
  · show c.leaf.load.getD (17 + 7 * i + 5) 0 + 256 * c.leaf.load.getD (17 + 7 * i + 6) 0 = f.blocks
    rw [e5, e6]
    show f.blocks % 256 + 256 * (f.blocks / 256 % 256) = f.blocks
    omega
theorem files_ext {a b : List Fl} (hl : a.length = b.length) (h : ∀ i, i < b.length → flAt a i = flAt b i) : a = b := by
  apply List.ext_getElem?
  intro i
  by_cases hi : i < b.length
  · have := h i hi
    unfold flAt at this
    rw [List.getD_eq_getElem?_getD, List.getD_eq_getElem?_getD, List.getElem?_eq_getElem (by omega), List.getElem?_eq_getElem hi] at this
    rw [List.getElem?_eq_getElem (by omega), List.getElem?_eq_getElem hi]
    exact congrArg some this
  · rw [List.getElem?_eq_none (by omega), List.getElem?_eq_none (by omega)]
theorem flAt_map (n : Nat) (f : Nat → Fl) (i : Nat) (hi : i < n) : flAt ((List.range n).map f) i = f i := by
  unfold flAt
  rw [List.getD_eq_getElem?_getD, List.getElem?_map, List.getElem?_range hi]
  rfl
theorem unCt_leaf {c : Ct} (h : c.Right) : unCt c.leaf = c := by
  obtain ⟨⟨h1, h1'⟩, ⟨h2, h2'⟩, _, _⟩ := h.card
  obtain ⟨g0, g1⟩ := h.g
  have e := fun k hk => c.leaf_head k hk
  have hn : (c.leaf.size.toNat - 17) / 7 = c.files.length := by
    show ((c.bytes.length : Int).toNat - 17) / 7 = _
    rw [c.bytes_len]; omega
  have hf : (List.range ((c.leaf.size.toNat - 17) / 7)).map (fun i => unFl c.leaf.load (17 + 7 * i)) = c.files := by
    rw [hn]
    refine files_ext (by simp) (fun i hi => ?_)
    rw [flAt_map _ _ _ hi, unFl_leaf h i hi]
  unfold unCt num4
  rw [hf, e 0 (by decide), e (0 + 1) (by decide), e (0 + 2) (by decide), e (0 + 3) (by decide), e 4 (by decide), e 5 (by decide), e 6 (by decide), e 7 (by decide), e 8 (by decide), e 9 (by decide), e (9 + 1) (by decide), e (9 + 2) (by decide), e (9 + 3) (by decide), e 13 (by decide), e (13 + 1) (by decide), e (13 + 2) (by decide), e (13 + 3) (by decide)]
  show (⟨c.gen % 256 + 256 * (c.gen / 256 % 256) + 65536 * (c.gen / 65536 % 256) + 16777216 * (c.gen / 16777216 % 256), c.step, c.status, bit01 c.ended == 1, ⟨c.card.frm % 256 + 256 * (c.card.frm / 256 % 256) + 65536 * (c.card.frm / 65536 % 256) + 16777216 * (c.card.frm / 16777216 % 256), c.card.to_ % 256 + 256 * (c.card.to_ / 256 % 256) + 65536 * (c.card.to_ / 65536 % 256) + 16777216 * (c.card.to_ / 16777216 % 256), c.card.budget, c.card.fan⟩, c.files⟩ : Ct) = c
  rw [by4_num (by omega) (by omega), by4_num h1 (by omega), by4_num h2 (by omega)]
  have eb : (bit01 c.ended == 1) = c.ended := by cases c.ended <;> rfl
  rw [eb]
theorem leaf_isCt {c : Ct} (h : c.Right) : c.leaf.IsCt := by
  have hl := c.bytes_len
  refine ⟨Ct.leaf_right h, rfl, rfl, rfl, rfl, by show 17 ≤ (c.bytes.length : Int); omega, by show ((c.bytes.length : Int) - 17) % 7 = 0; omega, ?_, by rw [unCt_leaf h]; exact h⟩
  rw [c.leaf_head 6 (by decide)]
  show bit01 c.ended ≤ 1
  unfold bit01
  split <;> omega
theorem getCt_leaf {c : Ct} (h : c.Right) : getCt c.leaf = some c := by
  unfold getCt
  rw [if_pos (leaf_isCt h), unCt_leaf h]
/-- The bytes that a leaf's own catalog gives are the leaf's. -/
theorem by4_un {b : List Int} {k : Nat} (h : ∀ j, j < 4 → U8 (b.getD (k + j) 0)) : by4 (num4 b k) = [b.getD k 0, b.getD (k + 1) 0, b.getD (k + 2) 0, b.getD (k + 3) 0] := by
  have h0 := h 0 (by decide); have h1 := h 1 (by decide); have h2 := h 2 (by decide); have h3 := h 3 (by decide)
  unfold U8 at h0 h1 h2 h3
  unfold by4 num4
  rw [Nat.add_zero] at h0
  generalize b.getD k 0 = x0 at *
  generalize b.getD (k + 1) 0 = x1 at *
  generalize b.getD (k + 2) 0 = x2 at *
  generalize b.getD (k + 3) 0 = x3 at *
  have e0 : (x0 + 256 * x1 + 65536 * x2 + 16777216 * x3) % 256 = x0 := by omega
  have e1 : (x0 + 256 * x1 + 65536 * x2 + 16777216 * x3) / 256 % 256 = x1 := by omega
  have e2 : (x0 + 256 * x1 + 65536 * x2 + 16777216 * x3) / 65536 % 256 = x2 := by omega
  have e3 : (x0 + 256 * x1 + 65536 * x2 + 16777216 * x3) / 16777216 % 256 = x3 := by omega
  rw [e0, e1, e2, e3]
theorem le2_un {b : List Int} {k : Nat} (h0 : U8 (b.getD k 0)) (h1 : U8 (b.getD (k + 1) 0)) : le2 (num2 b k) = [b.getD k 0, b.getD (k + 1) 0] := by
  unfold U8 at h0 h1
  unfold le2 num2
  generalize b.getD k 0 = x0 at *
  generalize b.getD (k + 1) 0 = x1 at *
  have e0 : (x0 + 256 * x1) % 256 = x0 := by omega
  have e1 : (x0 + 256 * x1) / 256 % 256 = x1 := by omega
  rw [e0, e1]
theorem getCt_some {L : Lf} {c : Ct} (ok : L.Ok) (h : getCt L = some c) : c.Right ∧ c.leaf = L := by
  unfold getCt at h
  split at h
  case isFalse => cases h
  case isTrue hc =>
    injection h with h
    subst h
    refine ⟨hc.c, ?_⟩
    obtain ⟨hs0, hs1⟩ := hc.r.s
    have hs := hc.s; have hm := hc.m
    have u := fun k (hk : k < 116) => ok.u k (by rw [ok.l]; exact hk)
    obtain ⟨z, hz⟩ : ∃ z : Nat, L.size = z := ⟨L.size.toNat, by omega⟩
    have hfl : (unCt L).files.length = (z - 17) / 7 := by
      show ((List.range ((L.size.toNat - 17) / 7)).map _).length = _
      rw [List.length_map, List.length_range, hz]; rfl
    have hbl : (unCt L).bytes.length = z := by rw [Ct.bytes_len, hfl]; omega
    have hb6 : bit01 (L.load.getD 6 0 == 1) = L.load.getD 6 0 := by
      have h1 := hc.b
      obtain ⟨h0, _⟩ := u 6 (by decide)
      have : L.load.getD 6 0 = 0 ∨ L.load.getD 6 0 = 1 := by omega
      rcases this with e | e <;> rw [e] <;> rfl
    have hh : ∀ k, k < 17 → (unCt L).head.getD k 0 = L.load.getD k 0 := fun k hk => by
      have e : (unCt L).head = [L.load.getD 0 0, L.load.getD 1 0, L.load.getD 2 0, L.load.getD 3 0, L.load.getD 4 0, L.load.getD 5 0, L.load.getD 6 0, L.load.getD 7 0, L.load.getD 8 0, L.load.getD 9 0, L.load.getD 10 0, L.load.getD 11 0, L.load.getD 12 0, L.load.getD 13 0, L.load.getD 14 0, L.load.getD 15 0, L.load.getD 16 0] := by
        have f1 := by4_un (b := L.load) (k := 0) (fun j hj => u _ (by omega))
        have f2 := by4_un (b := L.load) (k := 9) (fun j hj => u _ (by omega))
        have f3 := by4_un (b := L.load) (k := 13) (fun j hj => u _ (by omega))
        show by4 (num4 L.load 0) ++ ([L.load.getD 4 0, L.load.getD 5 0, bit01 (L.load.getD 6 0 == 1), L.load.getD 7 0, L.load.getD 8 0] ++ (by4 (num4 L.load 9) ++ by4 (num4 L.load 13))) = _
        rw [f1, f2, f3, hb6]
        rfl
      rw [e]
      have : k = 0 ∨ k = 1 ∨ k = 2 ∨ k = 3 ∨ k = 4 ∨ k = 5 ∨ k = 6 ∨ k = 7 ∨ k = 8 ∨ k = 9 ∨ k = 10 ∨ k = 11 ∨ k = 12 ∨ k = 13 ∨ k = 14 ∨ k = 15 ∨ k = 16 := by omega
      rcases this with rfl | rfl | rfl | rfl | rfl | rfl | rfl | rfl | rfl | rfl | rfl | rfl | rfl | rfl | rfl | rfl | rfl <;> rfl
    have hfs : ∀ i j, i < (z - 17) / 7 → j < 7 → (flAt (unCt L).files i).bytes.getD j 0 = L.load.getD (17 + 7 * i + j) 0 := fun i j hi hj => by
      have e : flAt (unCt L).files i = unFl L.load (17 + 7 * i) := by
        show flAt ((List.range ((L.size.toNat - 17) / 7)).map _) i = _
        rw [flAt_map _ _ _ (by rw [hz]; exact hi)]
      rw [e]
      have f1 := le2_un (b := L.load) (k := 17 + 7 * i + 1) (u _ (by omega)) (u _ (by omega))
      have f2 := le2_un (b := L.load) (k := 17 + 7 * i + 3) (u _ (by omega)) (u _ (by omega))
      have f3 := le2_un (b := L.load) (k := 17 + 7 * i + 5) (u _ (by omega)) (u _ (by omega))
      have g : (unFl L.load (17 + 7 * i)).bytes = [L.load.getD (17 + 7 * i) 0, L.load.getD (17 + 7 * i + 1) 0, L.load.getD (17 + 7 * i + 2) 0, L.load.getD (17 + 7 * i + 3) 0, L.load.getD (17 + 7 * i + 4) 0, L.load.getD (17 + 7 * i + 5) 0, L.load.getD (17 + 7 * i + 6) 0] := by
        show L.load.getD (17 + 7 * i) 0 :: (le2 (num2 L.load (17 + 7 * i + 1)) ++ (le2 (num2 L.load (17 + 7 * i + 3)) ++ le2 (num2 L.load (17 + 7 * i + 5)))) = _
        rw [f1, f2, f3]
        rfl
      rw [g]
      match j, hj with
      | 0, _ => rfl
      | 1, _ => rfl
      | 2, _ => rfl
      | 3, _ => rfl
      | 4, _ => rfl
      | 5, _ => rfl
      | 6, _ => rfl
    have hld : (unCt L).leaf.load = L.load := by
      have hll : (unCt L).leaf.load.length = 116 := Ct.leaf_load_len hc.c
      apply List.ext_getElem?
      intro k
      by_cases hk : k < 116
      · have key : (unCt L).leaf.load.getD k 0 = L.load.getD k 0 := by
          by_cases h17 : k < 17
          · rw [Ct.leaf_head _ k h17, hh k h17]
          · by_cases hkz : k < z
            · have e : k = 17 + 7 * ((k - 17) / 7) + (k - 17) % 7 := by omega
              have hi : (k - 17) / 7 < (z - 17) / 7 := by omega
              rw [e, Ct.leaf_file _ _ _ (by rw [hfl]; exact hi) (by omega), hfs _ _ hi (by omega)]
            · rw [hc.r.b k (by omega) hk]
              show ((unCt L).bytes ++ zeros (116 - (unCt L).bytes.length)).getD k 0 = 0
              rw [getD_app, if_neg (by omega), zeros_at]
        rw [List.getD_eq_getElem?_getD, List.getD_eq_getElem?_getD, List.getElem?_eq_getElem (by omega), List.getElem?_eq_getElem (by rw [ok.l]; exact hk)] at key
        rw [List.getElem?_eq_getElem (by omega), List.getElem?_eq_getElem (by rw [ok.l]; exact hk)]
        exact congrArg some key
      · rw [List.getElem?_eq_none (by omega), List.getElem?_eq_none (by rw [ok.l]; omega)]
    have hld' : (unCt L).bytes ++ zeros (116 - (unCt L).bytes.length) = L.load := hld
    have h1 := hc.k; have h2 := hc.f; have h3 := hc.p; have h4 := hc.n
    unfold Ct.leaf
    rw [hld', hbl, ← hz]
    cases L
    simp only at h1 h2 h3 h4
    rw [h1, h2, h3, h4]
theorem ct_leaf_inj {a b : Ct} (ha : a.Right) (hb : b.Right) : a.leaf = b.leaf ↔ a = b := by
  constructor
  · intro e
    have h1 := getCt_leaf ha
    rw [e, getCt_leaf hb] at h1
    injection h1 with h1
    exact h1.symm
  · intro e; rw [e]
end Go.Proofs.Ytilmicekpclmbaa
namespace Go.Proofs.Ytilmicekpclmbaa
set_option linter.unusedVariables false
set_option linter.unusedSimpArgs false

structure St where
  dk : Dk
  cat : Ct
  slot : Int
  begun : Int
  free : List Bool
  /-- The block that the disk lies in. -/
  loc : Nat

theorem lastFor_mem {l : List (Nat × List Int)} {i : Nat} {b : List Int} : lastFor l i = some b → ∃ p, p ∈ l ∧ p.1 = i ∧ p.2 = b := by
  refine snoc_ind (P := fun l => lastFor l i = some b → ∃ p, p ∈ l ∧ p.1 = i ∧ p.2 = b) ?_ ?_ l
  · intro h; cases h
  · intro l p ih h
    rw [lastFor_snoc] at h
    split at h
    · rename_i e
      injection h with h
      exact ⟨p, by simp, e, h⟩
    · obtain ⟨q, h1, h2⟩ := ih h
      exact ⟨q, by simp [h1], h2⟩
theorem Dk.read_blk {s : Dk} (ok : s.Ok) {i : Nat} (hi : i < s.blk.length) {xs : List Int} (h : s.read i = some xs) : IsBlk xs := by
  unfold Dk.read at h
  split at h
  · cases h
  · split at h
    · rename_i b hb
      injection h with h
      obtain ⟨p, h1, h2, h3⟩ := lastFor_mem hb
      rw [← h, ← h3]
      exact (ok.wts p h1).2
    · split at h
      · cases h
      · injection h with h
        rw [← h]
        exact ok.blks i hi
/-- The leaf that block i has. -/
noncomputable def leafD (s : Dk) (i : Int) : Option Lf := if 0 ≤ i ∧ i < s.blk.length then (s.read i.toNat).bind getLf else none
noncomputable def ldL (s : Dk) (i : Int) : Lf := (leafD s i).getD Lf.zero
noncomputable def ldB (s : Dk) (i : Int) : Bool := (leafD s i).isSome
theorem ld_some {s : Dk} {i : Int} {L : Lf} (h : leafD s i = some L) : ldL s i = L ∧ ldB s i = true := by unfold ldL ldB; rw [h]; exact ⟨rfl, rfl⟩
theorem ld_none {s : Dk} {i : Int} (h : leafD s i = none) : ldL s i = Lf.zero ∧ ldB s i = false := by unfold ldL ldB; rw [h]; exact ⟨rfl, rfl⟩
theorem leafD_out {s : Dk} {i : Int} (h : i < 0 ∨ s.blk.length ≤ i ∨ s.read i.toNat = none) : leafD s i = none := by
  unfold leafD
  split
  · rename_i g
    rcases h with h | h | h
    · omega
    · omega
    · rw [h]; rfl
  · rfl
theorem leafD_in {s : Dk} {i : Int} {xs : List Int} (h0 : 0 ≤ i) (h1 : i < s.blk.length) (h : s.read i.toNat = some xs) : leafD s i = getLf xs := by
  unfold leafD
  rw [if_pos ⟨h0, h1⟩, h]; rfl
theorem leafD_right {s : Dk} (ok : s.Ok) {i : Int} {L : Lf} (h : leafD s i = some L) : L.Ok ∧ L.Right ∧ 0 ≤ i ∧ i < s.blk.length ∧ s.read i.toNat = some L.put := by
  unfold leafD at h
  split at h
  · rename_i g
    cases hr : s.read i.toNat with
    | none => rw [hr] at h; cases h
    | some xs =>
      rw [hr] at h
      have hb := Dk.read_blk ok (by omega) hr
      obtain ⟨h1, h2, h3⟩ := getLf_some hb.2 h
      exact ⟨h1, h2, g.1, g.2, by rw [h3]⟩
  · cases h
theorem ldL_ok {s : Dk} (ok : s.Ok) (i : Int) : (ldL s i).Ok := by
  cases h : leafD s i with
  | none => rw [(ld_none h).1]; exact Lf.zero_ok
  | some L => rw [(ld_some h).1]; exact (leafD_right ok h).1
theorem ldL_size {s : Dk} (ok : s.Ok) (i : Int) : 0 ≤ (ldL s i).size ∧ (ldL s i).size ≤ 116 := by
  cases h : leafD s i with
  | none => rw [(ld_none h).1]; exact ⟨by decide, by decide⟩
  | some L => rw [(ld_some h).1]; exact (leafD_right ok h).2.1.s
/-- Is block at_ the leaf of file nr at that place? -/
noncomputable def stepOk (s : Dk) (nr place at_ : Int) : Bool := ldB s at_ && (decide (2 ≤ at_) && (decide ((ldL s at_).kind = 1) && (decide ((ldL s at_).file = nr) && decide ((ldL s at_).place = place))))
/-- What Step answers. -/
noncomputable def stepC (s : Dk) (nr place at_ : Int) : Int := if s.off then 7 else if stepOk s nr place at_ then 0 else 6
noncomputable def stepB (s : Dk) (at_ : Int) : List Int := (ldL s at_).load.take (ldL s at_).size.toNat
noncomputable def stepN (s : Dk) (at_ : Int) : Int := (ldL s at_).next
theorem stepB_len {s : Dk} (ok : s.Ok) (i : Int) : ((stepB s i).length : Int) = (ldL s i).size := by
  unfold stepB
  have h1 := (ldL_ok ok i).l
  have h2 := ldL_size ok i
  rw [List.length_take, h1]
  omega
theorem stepC_cases (s : Dk) (nr place at_ : Int) : stepC s nr place at_ = 0 ∨ stepC s nr place at_ = 6 ∨ stepC s nr place at_ = 7 := by
  unfold stepC; split
  · exact Or.inr (Or.inr rfl)
  · split
    · exact Or.inl rfl
    · exact Or.inr (Or.inl rfl)
theorem leafD_off {s : Dk} (h : s.off = true) (i : Int) : leafD s i = none := by
  unfold leafD Dk.read
  rw [h]
  split <;> rfl
theorem stepC_zero {s : Dk} {nr place at_ : Int} : stepC s nr place at_ = 0 ↔ ∃ L, leafD s at_ = some L ∧ 2 ≤ at_ ∧ L.kind = 1 ∧ L.file = nr ∧ L.place = place := by
  unfold stepC
  constructor
  · intro h
    split at h
    · cases h
    · split at h
      · rename_i h2
        unfold stepOk at h2
        simp only [Bool.and_eq_true, decide_eq_true_eq] at h2
        obtain ⟨h3, h4, h5, h6, h7⟩ := h2
        cases hl : leafD s at_ with
        | none => rw [(ld_none hl).2] at h3; cases h3
        | some L => rw [(ld_some hl).1] at h5 h6 h7; exact ⟨L, rfl, h4, h5, h6, h7⟩
      · cases h
  · rintro ⟨L, hl, h1, h2, h3, h4⟩
    have ho : ¬ s.off = true := fun e => by rw [leafD_off e] at hl; cases hl
    rw [if_neg ho, if_pos]
    unfold stepOk
    rw [(ld_some hl).1, (ld_some hl).2]
    simp [h1, h2, h3, h4]
/-- What one round along a chain yields. -/
structure Pt where
  at_ : Int
  bytes : List Int
  st : Int
/-- The rounds along a chain from a block on: so many places are left. -/
noncomputable def chainR (s : Dk) (nr : Int) : Nat → Int → Int → List Pt
  | 0, _, at_ => if at_ = 0 then [] else [⟨0, [], 6⟩]
  | k + 1, place, at_ => if stepC s nr place at_ = 0 then ⟨at_, stepB s at_, 0⟩ :: chainR s nr k (place + 1) (stepN s at_) else [⟨0, [], stepC s nr place at_⟩]
noncomputable def chainP (s : Dk) (f : Fl) : List Pt := chainR s f.file f.blocks.toNat 0 f.first
/-- The status of a chain: the first that is not OK. -/
def chainEnd : List Pt → Int
  | [] => 0
  | p :: r => if p.st = 0 then chainEnd r else p.st
theorem chainEnd_snoc (l : List Pt) (p : Pt) (h : chainEnd l = 0) : chainEnd (l ++ [p]) = p.st := by
  induction l with
  | nil => show (if p.st = 0 then 0 else p.st) = _; split <;> simp_all
  | cons q r ih =>
    unfold chainEnd at h
    show (if q.st = 0 then chainEnd (r ++ [p]) else q.st) = _
    split at h
    · rename_i e; rw [if_pos e]; exact ih h
    · rename_i e; exact absurd h e
/-- Along a chain all rounds but the last are OK. -/
theorem chainR_front (s : Dk) (nr : Int) : ∀ (k : Nat) (place at_ : Int) (pre : List Pt) (p : Pt) (post : List Pt), chainR s nr k place at_ = pre ++ p :: post → post ≠ [] → p.st = 0
  | 0, place, at_, pre, p, post, h, hp => by
    unfold chainR at h
    split at h
    · cases pre <;> cases h
    · cases pre with
      | nil => injection h with h1 h2; exact absurd h2.symm hp
      | cons q r => injection h with h1 h2; cases r <;> cases h2
  | k + 1, place, at_, pre, p, post, h, hp => by
    unfold chainR at h
    split at h
    · cases pre with
      | nil => injection h with h1 h2; rw [← h1]
      | cons q r => injection h with h1 h2; exact chainR_front s nr k _ _ r p post h2 hp
    · cases pre with
      | nil => injection h with h1 h2; exact absurd h2.symm hp
      | cons q r => injection h with h1 h2; cases r <;> cases h2
theorem chainR_len (s : Dk) (nr : Int) : ∀ (k : Nat) (place at_ : Int), (chainR s nr k place at_).length ≤ k + 1
  | 0, place, at_ => by unfold chainR; split <;> simp
  | k + 1, place, at_ => by
    unfold chainR
    split
    · simp; exact chainR_len s nr k _ _
    · simp
end Go.Proofs.Ytilmicekpclmbaa
