/-
  The contract of the document's own Mul (sheafref1): it returns the two words of the product, for every two ints; nothing that was in memory turns.
-/
import Derived.Test.YtddlannblopbeaaRefA
import Derived.Test.YtddlannblopbeaaWCell
import Derived.LoopN
import Derived.Deep.QuietTactic
import Derived.BigQuiet
namespace Go.Proofs.Ytddlannblopbeaa
set_option linter.unusedVariables false
set_option linter.unusedSimpArgs false
open Go.RowKit

/-- The four digits of a product, by the school method on halves. -/
structure Dig (x0 x1 y0 y1 p q r s o0 c0 o1 c1 o2 c2 o3 c3 : Int) : Prop where
  fp : IntKind.u64.wrap (x0 * y0) = p
  fq : IntKind.u64.wrap (x1 * y0) = q
  fr : IntKind.u64.wrap (x0 * y1) = r
  fs : IntKind.u64.wrap (x1 * y1) = s
  p0 : 0 ≤ p
  p1 : p ≤ 18446744065119617025
  q0 : 0 ≤ q
  q1 : q ≤ 18446744065119617025
  r0 : 0 ≤ r
  r1 : r ≤ 18446744065119617025
  s0 : 0 ≤ s
  s1 : s ≤ 18446744065119617025
  g0 : bits .and .u64 p 4294967295 = o0
  k0 : p / 4294967296 = c0
  g1 : bits .and .u64 (r + c0) 4294967295 = o1
  k1 : (r + c0) / 4294967296 = c1
  g2 : bits .and .u64 (o1 + q) 4294967295 = o2
  k2 : (o1 + q) / 4294967296 = c2
  g3 : bits .and .u64 (c1 + s + c2) 4294967295 = o3
  k3 : (c1 + s + c2) / 4294967296 = c3

theorem dig_of (x y : Int) (hx : 0 ≤ x) (hx' : x ≤ 18446744073709551615) (hy : 0 ≤ y) (hy' : y ≤ 18446744073709551615) :
    ∃ x0 x1 y0 y1 p q r s o0 c0 o1 c1 o2 c2 o3 c3 : Int, bits .and .u64 x 4294967295 = x0 ∧ x / 4294967296 = x1 ∧ bits .and .u64 y 4294967295 = y0 ∧ y / 4294967296 = y1 ∧
      Dig x0 x1 y0 y1 p q r s o0 c0 o1 c1 o2 c2 o3 c3 ∧ (0 ≤ o0 ∧ o0 ≤ 4294967295) ∧ (0 ≤ c0 ∧ c0 ≤ 4294967295) ∧ (0 ≤ o1 ∧ o1 ≤ 4294967295) ∧ (0 ≤ c1 ∧ c1 ≤ 4294967295) ∧ (0 ≤ o2 ∧ o2 ≤ 4294967295) ∧ (0 ≤ c2 ∧ c2 ≤ 4294967295) ∧ (0 ≤ o3 ∧ o3 ≤ 4294967295) ∧ (0 ≤ c3 ∧ c3 ≤ 4294967295) ∧
      x * y = c3 * 79228162514264337593543950336 + o3 * 18446744073709551616 + o2 * 4294967296 + o0 := by
  obtain ⟨x0, ex0⟩ : ∃ x0, x0 = x % 4294967296 := ⟨_, rfl⟩
  obtain ⟨x1, ex1⟩ : ∃ x1, x1 = x / 4294967296 := ⟨_, rfl⟩
  obtain ⟨y0, ey0⟩ : ∃ y0, y0 = y % 4294967296 := ⟨_, rfl⟩
  obtain ⟨y1, ey1⟩ : ∃ y1, y1 = y / 4294967296 := ⟨_, rfl⟩
  obtain ⟨a1, a2⟩ := half_prod x0 y0 (by omega) (by omega) (by omega) (by omega)
  obtain ⟨b1, b2⟩ := half_prod x1 y0 (by omega) (by omega) (by omega) (by omega)
  obtain ⟨c1, c2⟩ := half_prod x0 y1 (by omega) (by omega) (by omega) (by omega)
  obtain ⟨d1, d2⟩ := half_prod x1 y1 (by omega) (by omega) (by omega) (by omega)
  obtain ⟨p, ep⟩ : ∃ p, p = x0 * y0 := ⟨_, rfl⟩
  obtain ⟨q, eq⟩ : ∃ q, q = x1 * y0 := ⟨_, rfl⟩
  obtain ⟨r, er⟩ : ∃ r, r = x0 * y1 := ⟨_, rfl⟩
  obtain ⟨s, es⟩ : ∃ s, s = x1 * y1 := ⟨_, rfl⟩
  have whole : x * y = s * 18446744073709551616 + (q + r) * 4294967296 + p := by
    have hxx : x = x1 * 4294967296 + x0 := by omega
    have hyy : y = y1 * 4294967296 + y0 := by omega
    rw [hxx, hyy, ep, eq, er, es, Int.add_mul, Int.mul_add, Int.mul_add, Int.mul_right_comm x1 4294967296 y0, ← Int.mul_assoc x0 y1, ← Int.mul_assoc (x1 * 4294967296) y1, Int.mul_right_comm x1 4294967296 y1]
    generalize x1 * y1 = A; generalize x1 * y0 = B; generalize x0 * y1 = C; generalize x0 * y0 = D
    omega
  have fp : IntKind.u64.wrap (x0 * y0) = p := by rw [ep]; exact u64_id _ a1 (by omega)
  have fq : IntKind.u64.wrap (x1 * y0) = q := by rw [eq]; exact u64_id _ b1 (by omega)
  have fr : IntKind.u64.wrap (x0 * y1) = r := by rw [er]; exact u64_id _ c1 (by omega)
  have fs : IntKind.u64.wrap (x1 * y1) = s := by rw [es]; exact u64_id _ d1 (by omega)
  rw [← ep] at a1 a2; rw [← eq] at b1 b2; rw [← er] at c1 c2; rw [← es] at d1 d2
  refine ⟨x0, x1, y0, y1, p, q, r, s, p % 4294967296, p / 4294967296, (r + p / 4294967296) % 4294967296, (r + p / 4294967296) / 4294967296, ((r + p / 4294967296) % 4294967296 + q) % 4294967296, ((r + p / 4294967296) % 4294967296 + q) / 4294967296,
    ((r + p / 4294967296) / 4294967296 + s + ((r + p / 4294967296) % 4294967296 + q) / 4294967296) % 4294967296, ((r + p / 4294967296) / 4294967296 + s + ((r + p / 4294967296) % 4294967296 + q) / 4294967296) / 4294967296,
    by rw [ex0]; exact and32 x hx hx', ex1.symm, by rw [ey0]; exact and32 y hy hy', ey1.symm,
    ⟨fp, fq, fr, fs, a1, a2, b1, b2, c1, c2, d1, d2, and32 _ (by omega) (by omega), rfl, and32 _ (by omega) (by omega), rfl, and32 _ (by omega) (by omega), rfl, and32 _ (by omega) (by omega), rfl⟩, ?_⟩
  rw [whole]
  omega

theorem cell_far (w : World) (a b o p : Nat) (v : Value) (h : a ≠ b ∨ o ≠ p) : (w.setCell ⟨a, o, none⟩ v).cell? ⟨b, p, none⟩ = w.cell? ⟨b, p, none⟩ := by
  refine World.cell?_setCell_other _ _ _ _ (fun e => ?_)
  injection e with e1 e2
  rcases h with h | h
  · exact h e1
  · exact h e2

/-- The memory of limbs: two arrays of two words, one of four that is written. -/
structure Mem (w : World) (B nx ny no : Nat) (x0 x1 y0 y1 v0 v1 v2 v3 : Value) : Prop where
  lx : nx < w.heap.size
  ly : ny < w.heap.size
  lo : no < w.heap.size
  nex : no ≠ nx
  ney : no ≠ ny
  bo : B ≤ no
  cx0 : w.cell? ⟨nx, 0, none⟩ = some x0
  cx1 : w.cell? ⟨nx, 1, none⟩ = some x1
  cy0 : w.cell? ⟨ny, 0, none⟩ = some y0
  cy1 : w.cell? ⟨ny, 1, none⟩ = some y1
  c0 : w.cell? ⟨no, 0, none⟩ = some v0
  c1 : w.cell? ⟨no, 1, none⟩ = some v1
  c2 : w.cell? ⟨no, 2, none⟩ = some v2
  c3 : w.cell? ⟨no, 3, none⟩ = some v3
  f0 : w.frozen? ⟨no, 0, none⟩ = false
  f1 : w.frozen? ⟨no, 1, none⟩ = false
  f2 : w.frozen? ⟨no, 2, none⟩ = false
  f3 : w.frozen? ⟨no, 3, none⟩ = false
section
variable {w : World} {B nx ny no : Nat} {x0 x1 y0 y1 v0 v1 v2 v3 : Value}
theorem Mem.drewN (h : Mem w B nx ny no x0 x1 y0 y1 v0 v1 v2 v3) (m : Nat) : Mem (w.drewN m) B nx ny no x0 x1 y0 y1 v0 v1 v2 v3 :=
  ⟨h.lx, h.ly, h.lo, h.nex, h.ney, h.bo, h.cx0, h.cx1, h.cy0, h.cy1, h.c0, h.c1, h.c2, h.c3, h.f0, h.f1, h.f2, h.f3⟩
theorem Mem.put0 (h : Mem w B nx ny no x0 x1 y0 y1 v0 v1 v2 v3) (u : Value) : Mem (w.setCell ⟨no, 0, none⟩ u) B nx ny no x0 x1 y0 y1 u v1 v2 v3 :=
  ⟨by simpa [World.setCell] using h.lx, by simpa [World.setCell] using h.ly, by simpa [World.setCell] using h.lo, h.nex, h.ney, h.bo,
    by rw [cell_far _ _ _ _ _ _ (Or.inl h.nex)]; exact h.cx0, by rw [cell_far _ _ _ _ _ _ (Or.inl h.nex)]; exact h.cx1, by rw [cell_far _ _ _ _ _ _ (Or.inl h.ney)]; exact h.cy0, by rw [cell_far _ _ _ _ _ _ (Or.inl h.ney)]; exact h.cy1,
    World.cell?_setCell_same _ _ _ h.c0, by rw [cell_far _ _ _ _ _ _ (Or.inr (by decide))]; exact h.c1, by rw [cell_far _ _ _ _ _ _ (Or.inr (by decide))]; exact h.c2, by rw [cell_far _ _ _ _ _ _ (Or.inr (by decide))]; exact h.c3,
    by simpa using h.f0, by simpa using h.f1, by simpa using h.f2, by simpa using h.f3⟩
theorem Mem.put1 (h : Mem w B nx ny no x0 x1 y0 y1 v0 v1 v2 v3) (u : Value) : Mem (w.setCell ⟨no, 1, none⟩ u) B nx ny no x0 x1 y0 y1 v0 u v2 v3 :=
  ⟨by simpa [World.setCell] using h.lx, by simpa [World.setCell] using h.ly, by simpa [World.setCell] using h.lo, h.nex, h.ney, h.bo,
    by rw [cell_far _ _ _ _ _ _ (Or.inl h.nex)]; exact h.cx0, by rw [cell_far _ _ _ _ _ _ (Or.inl h.nex)]; exact h.cx1, by rw [cell_far _ _ _ _ _ _ (Or.inl h.ney)]; exact h.cy0, by rw [cell_far _ _ _ _ _ _ (Or.inl h.ney)]; exact h.cy1,
    by rw [cell_far _ _ _ _ _ _ (Or.inr (by decide))]; exact h.c0, World.cell?_setCell_same _ _ _ h.c1, by rw [cell_far _ _ _ _ _ _ (Or.inr (by decide))]; exact h.c2, by rw [cell_far _ _ _ _ _ _ (Or.inr (by decide))]; exact h.c3,
    by simpa using h.f0, by simpa using h.f1, by simpa using h.f2, by simpa using h.f3⟩
theorem Mem.put2 (h : Mem w B nx ny no x0 x1 y0 y1 v0 v1 v2 v3) (u : Value) : Mem (w.setCell ⟨no, 2, none⟩ u) B nx ny no x0 x1 y0 y1 v0 v1 u v3 :=
  ⟨by simpa [World.setCell] using h.lx, by simpa [World.setCell] using h.ly, by simpa [World.setCell] using h.lo, h.nex, h.ney, h.bo,
    by rw [cell_far _ _ _ _ _ _ (Or.inl h.nex)]; exact h.cx0, by rw [cell_far _ _ _ _ _ _ (Or.inl h.nex)]; exact h.cx1, by rw [cell_far _ _ _ _ _ _ (Or.inl h.ney)]; exact h.cy0, by rw [cell_far _ _ _ _ _ _ (Or.inl h.ney)]; exact h.cy1,
    by rw [cell_far _ _ _ _ _ _ (Or.inr (by decide))]; exact h.c0, by rw [cell_far _ _ _ _ _ _ (Or.inr (by decide))]; exact h.c1, World.cell?_setCell_same _ _ _ h.c2, by rw [cell_far _ _ _ _ _ _ (Or.inr (by decide))]; exact h.c3,
    by simpa using h.f0, by simpa using h.f1, by simpa using h.f2, by simpa using h.f3⟩
theorem Mem.put3 (h : Mem w B nx ny no x0 x1 y0 y1 v0 v1 v2 v3) (u : Value) : Mem (w.setCell ⟨no, 3, none⟩ u) B nx ny no x0 x1 y0 y1 v0 v1 v2 u :=
  ⟨by simpa [World.setCell] using h.lx, by simpa [World.setCell] using h.ly, by simpa [World.setCell] using h.lo, h.nex, h.ney, h.bo,
    by rw [cell_far _ _ _ _ _ _ (Or.inl h.nex)]; exact h.cx0, by rw [cell_far _ _ _ _ _ _ (Or.inl h.nex)]; exact h.cx1, by rw [cell_far _ _ _ _ _ _ (Or.inl h.ney)]; exact h.cy0, by rw [cell_far _ _ _ _ _ _ (Or.inl h.ney)]; exact h.cy1,
    by rw [cell_far _ _ _ _ _ _ (Or.inr (by decide))]; exact h.c0, by rw [cell_far _ _ _ _ _ _ (Or.inr (by decide))]; exact h.c1, by rw [cell_far _ _ _ _ _ _ (Or.inr (by decide))]; exact h.c2, World.cell?_setCell_same _ _ _ h.c3,
    by simpa using h.f0, by simpa using h.f1, by simpa using h.f2, by simpa using h.f3⟩
end

/-- The result's array of four words. -/
structure Res (w : World) (nr no : Nat) : Prop where
  lr : nr < w.heap.size
  ner : no ≠ nr
  r0 : w.cell? ⟨nr, 0, none⟩ = some (.int .u64 0)
  r1 : w.cell? ⟨nr, 1, none⟩ = some (.int .u64 0)
  r2 : w.cell? ⟨nr, 2, none⟩ = some (.int .u64 0)
  r3 : w.cell? ⟨nr, 3, none⟩ = some (.int .u64 0)
  z0 : w.frozen? ⟨nr, 0, none⟩ = false
  z1 : w.frozen? ⟨nr, 1, none⟩ = false
  z2 : w.frozen? ⟨nr, 2, none⟩ = false
  z3 : w.frozen? ⟨nr, 3, none⟩ = false
theorem Res.put {w : World} {nr no : Nat} (h : Res w nr no) (m j : Nat) (u : Value) : Res ((w.drewN m).setCell ⟨no, j, none⟩ u) nr no :=
  ⟨by simpa [World.setCell] using h.lr, h.ner, by rw [cell_far _ _ _ _ _ _ (Or.inl h.ner)]; exact h.r0, by rw [cell_far _ _ _ _ _ _ (Or.inl h.ner)]; exact h.r1, by rw [cell_far _ _ _ _ _ _ (Or.inl h.ner)]; exact h.r2, by rw [cell_far _ _ _ _ _ _ (Or.inl h.ner)]; exact h.r3,
    by simpa using h.z0, by simpa using h.z1, by simpa using h.z2, by simpa using h.z3⟩
theorem Res.put' {w : World} {nr no : Nat} (h : Res w nr no) (j : Nat) (u : Value) : Res (w.setCell ⟨no, j, none⟩ u) nr no := h.put 0 j u

/-- What holds at the head of the inner loop, in the first round of the outer one, and in the second. -/
def InA (B : World) (nx ny no : Nat) (x0 x1 y0 y1 c0 c1 o0 o1 : Int) (cv kv : Value) (wr : World) : Prop :=
  Below B.heap.size B wr ∧ Res wr B.heap.size no ∧
  ((kv = .int .i64 0 ∧ cv = .int .u64 0 ∧ Mem wr B.heap.size nx ny no (.int .u64 x0) (.int .u64 x1) (.int .u64 y0) (.int .u64 y1) (.int .u64 0) (.int .u64 0) (.int .u64 0) (.int .u64 0)) ∨
   (kv = .int .i64 1 ∧ cv = .int .u64 c0 ∧ Mem wr B.heap.size nx ny no (.int .u64 x0) (.int .u64 x1) (.int .u64 y0) (.int .u64 y1) (.int .u64 o0) (.int .u64 0) (.int .u64 0) (.int .u64 0)) ∨
   (kv = .int .i64 2 ∧ cv = .int .u64 c1 ∧ Mem wr B.heap.size nx ny no (.int .u64 x0) (.int .u64 x1) (.int .u64 y0) (.int .u64 y1) (.int .u64 o0) (.int .u64 o1) (.int .u64 0) (.int .u64 0)))
def InB (B : World) (nx ny no : Nat) (x0 x1 y0 y1 c1 c2 c3 o0 o1 o2 o3 : Int) (cv kv : Value) (wr : World) : Prop :=
  Below B.heap.size B wr ∧ Res wr B.heap.size no ∧
  ((kv = .int .i64 0 ∧ cv = .int .u64 0 ∧ Mem wr B.heap.size nx ny no (.int .u64 x0) (.int .u64 x1) (.int .u64 y0) (.int .u64 y1) (.int .u64 o0) (.int .u64 o1) (.int .u64 c1) (.int .u64 0)) ∨
   (kv = .int .i64 1 ∧ cv = .int .u64 c2 ∧ Mem wr B.heap.size nx ny no (.int .u64 x0) (.int .u64 x1) (.int .u64 y0) (.int .u64 y1) (.int .u64 o0) (.int .u64 o2) (.int .u64 c1) (.int .u64 0)) ∨
   (kv = .int .i64 2 ∧ cv = .int .u64 c3 ∧ Mem wr B.heap.size nx ny no (.int .u64 x0) (.int .u64 x1) (.int .u64 y0) (.int .u64 y1) (.int .u64 o0) (.int .u64 o2) (.int .u64 o3) (.int .u64 0)))

set_option maxRecDepth 100000 in
set_option maxHeartbeats 1000000 in
theorem limbs_any (x y : Int) (hx : 0 ≤ x) (hx' : x ≤ 18446744073709551615) (hy : 0 ≤ y) (hy' : y ≤ 18446744073709551615) (w : World) :
    Calls Try.prog 33 #[.int .u64 x, .int .u64 y] w fun e w' => ∃ o0 o2 o3 c3 : Int, e = .returned (.agg #[.int .u64 o0, .int .u64 o2, .int .u64 o3, .int .u64 c3]) ∧ (0 ≤ o0 ∧ o0 ≤ 4294967295) ∧ (0 ≤ o2 ∧ o2 ≤ 4294967295) ∧ (0 ≤ o3 ∧ o3 ≤ 4294967295) ∧ (0 ≤ c3 ∧ c3 ≤ 4294967295) ∧
      x * y = c3 * 79228162514264337593543950336 + o3 * 18446744073709551616 + o2 * 4294967296 + o0 ∧ Below w.heap.size w w' := by
  obtain ⟨x0, x1, y0, y1, p, q, r, s, o0, c0, o1, c1, o2, c2, o3, c3, ex0, ex1, ey0, ey1, D, ⟨u0, v0⟩, ⟨u1, v1⟩, ⟨u2, v2⟩, ⟨u3, v3⟩, ⟨u4, v4⟩, ⟨u5, v5⟩, ⟨u6, v6⟩, ⟨u7, v7⟩, whole⟩ := dig_of x y hx hx' hy hy'
  obtain ⟨fp, fq, fr, fs, a1, a2, b1, b2, d1, d2, e1, e2, g0, k0, g1, k1, g2, k2, g3, k3⟩ := D
  have HW := Lib.hid whole
  clear whole
  go_enter Try.func33, Try.ntmps33
  go_wp2
  have M0 : Mem ((((w.alloc (.cells #[.int .u64 0, .int .u64 0, .int .u64 0, .int .u64 0] 57)).alloc (.cells #[.int .u64 x0, .int .u64 x1] 60)).alloc (.cells #[.int .u64 y0, .int .u64 y1] 60)).alloc (.cells #[.int .u64 0, .int .u64 0, .int .u64 0, .int .u64 0] 57)) w.heap.size (w.heap.size + 1) (w.heap.size + 1 + 1) (w.heap.size + 1 + 1 + 1) (.int .u64 x0) (.int .u64 x1) (.int .u64 y0) (.int .u64 y1) (.int .u64 0) (.int .u64 0) (.int .u64 0) (.int .u64 0) := by
    constructor <;> first | omega | (simp [go_sem]; done) | (simp [go_sem]; omega)
  have Z0 : Res ((((w.alloc (.cells #[.int .u64 0, .int .u64 0, .int .u64 0, .int .u64 0] 57)).alloc (.cells #[.int .u64 x0, .int .u64 x1] 60)).alloc (.cells #[.int .u64 y0, .int .u64 y1] 60)).alloc (.cells #[.int .u64 0, .int .u64 0, .int .u64 0, .int .u64 0] 57)) w.heap.size (w.heap.size + 1 + 1 + 1) := by
    constructor <;> first | omega | (simp [go_sem]; done) | (simp [go_sem]; omega)
  have bel0 : Below w.heap.size w ((((w.alloc (.cells #[.int .u64 0, .int .u64 0, .int .u64 0, .int .u64 0] 57)).alloc (.cells #[.int .u64 x0, .int .u64 x1] 60)).alloc (.cells #[.int .u64 y0, .int .u64 y1] 60)).alloc (.cells #[.int .u64 0, .int .u64 0, .int .u64 0, .int .u64 0] 57)) := ((((Below.refl _ _).alloc (Nat.le_refl _) _).alloc (by simp) _).alloc (by simp; omega) _).alloc (by simp; omega) _
  generalize ((((w.alloc (.cells #[.int .u64 0, .int .u64 0, .int .u64 0, .int .u64 0] 57)).alloc (.cells #[.int .u64 x0, .int .u64 x1] 60)).alloc (.cells #[.int .u64 y0, .int .u64 y1] 60)).alloc (.cells #[.int .u64 0, .int .u64 0, .int .u64 0, .int .u64 0] 57)) = W at *
  generalize w.heap.size + 1 + 1 + 1 = no at *
  generalize w.heap.size + 1 + 1 = ny at *
  generalize w.heap.size + 1 = nx at *
  refine wp_loop_rounds 3 ?_
  rw [rounds_succ]
  go_wp2
  go_loopw [9, 25] (fun cv kv wr => InA w nx ny no x0 x1 y0 y1 c0 c1 o0 o1 cv kv wr) (fun _ kv _ => 2 - (intOf kv).toNat)
  case atStart => exact ⟨bel0, Z0, Or.inl ⟨rfl, rfl, M0⟩⟩
  case round =>
    clear M0 Z0 bel0
    obtain ⟨bel, Z, hcase⟩ := hrel
    have HB := Lib.hid bel; have HZ := Lib.hid Z
    clear bel Z
    rcases hcase with ⟨rfl, rfl, M⟩ | ⟨rfl, rfl, M⟩ | ⟨rfl, rfl, M⟩
    · have HM := Lib.hid M
      obtain ⟨_, _, _, _, _, hbo, m1, m2, m3, m4, m5, m6, m7, m8, m9, m10, m11, m12⟩ := M
      go_wp2
      go_quiet (fail)
      go_wp2
      go_roundw
      case rel => exact ⟨(below_drewN HB.out _).setCell hbo _, HZ.out.put _ _ _, Or.inr (Or.inl ⟨rfl, rfl, (HM.out.drewN _).put0 _⟩)⟩
      case measure => simp [intOf]
    · have HM := Lib.hid M
      obtain ⟨_, _, _, _, _, hbo, m1, m2, m3, m4, m5, m6, m7, m8, m9, m10, m11, m12⟩ := M
      go_wp2
      go_quiet (fail)
      go_wp2
      go_roundw
      case rel => exact ⟨(below_drewN HB.out _).setCell hbo _, HZ.out.put _ _ _, Or.inr (Or.inr ⟨rfl, rfl, (HM.out.drewN _).put1 _⟩)⟩
      case measure => simp [intOf]
    · have HM := Lib.hid M
      obtain ⟨_, _, _, _, _, hbo, m1, m2, m3, m4, m5, m6, m7, m8, m9, m10, m11, m12⟩ := M
      go_wp2
      have M1 := HM.out.put2 (.int .u64 c1)
      have Z1 := HZ.out.put' 2 (.int .u64 c1)
      have bel1 := (HB.out).setCell (p := ⟨no, 2, none⟩) hbo (.int .u64 c1)
      clear HM HZ HB m1 m2 m3 m4 m5 m6 m7 m8 m9 m10 m11 m12
      generalize wr.setCell ⟨no, 2, none⟩ (.int .u64 c1) = W1 at *
      rw [rounds_succ]
      go_wp2
      go_loopw [9, 25] (fun cv kv wr => InB w nx ny no x0 x1 y0 y1 c1 c2 c3 o0 o1 o2 o3 cv kv wr) (fun _ kv _ => 2 - (intOf kv).toNat)
      case atStart => exact ⟨bel1, Z1, Or.inl ⟨rfl, rfl, M1⟩⟩
      case round =>
        clear M1 Z1 bel1
        obtain ⟨bel, Z, hcase⟩ := hrel
        have HB := Lib.hid bel; have HZ := Lib.hid Z
        clear bel Z
        rcases hcase with ⟨rfl, rfl, M⟩ | ⟨rfl, rfl, M⟩ | ⟨rfl, rfl, M⟩
        · have HM := Lib.hid M
          obtain ⟨_, _, _, _, _, hbo, m1, m2, m3, m4, m5, m6, m7, m8, m9, m10, m11, m12⟩ := M
          go_wp2
          go_quiet (fail)
          go_wp2
          go_roundw
          case rel => exact ⟨(below_drewN HB.out _).setCell hbo _, HZ.out.put _ _ _, Or.inr (Or.inl ⟨rfl, rfl, (HM.out.drewN _).put1 _⟩)⟩
          case measure => simp [intOf]
        · have HM := Lib.hid M
          obtain ⟨_, _, _, _, _, hbo, m1, m2, m3, m4, m5, m6, m7, m8, m9, m10, m11, m12⟩ := M
          go_wp2
          go_quiet (fail)
          go_wp2
          go_roundw
          case rel => exact ⟨(below_drewN HB.out _).setCell hbo _, HZ.out.put _ _ _, Or.inr (Or.inr ⟨rfl, rfl, (HM.out.drewN _).put2 _⟩)⟩
          case measure => simp [intOf]
        · have HM := Lib.hid M
          obtain ⟨_, _, _, _, _, hbo, m1, m2, m3, m4, m5, m6, m7, m8, m9, m10, m11, m12⟩ := M
          go_wp2
          have M2 := HM.out.put3 (.int .u64 c3)
          have Z2 := HZ.out.put' 3 (.int .u64 c3)
          have bel2 := (HB.out).setCell (p := ⟨no, 3, none⟩) hbo (.int .u64 c3)
          clear HM HZ HB m1 m2 m3 m4 m5 m6 m7 m8 m9 m10 m11 m12
          generalize wr.setCell ⟨no, 3, none⟩ (.int .u64 c3) = W2 at *
          obtain ⟨_, _, _, _, _, _, _, _, _, _, m5, m6, m7, m8, _, _, _, _⟩ := M2
          obtain ⟨zl, _, s0, s1, s2, s3, t0, t1, t2, t3⟩ := Z2
          rw [rounds_succ]
          go_wp2
          refine bodyPost_ret (v := .agg #[.int .u64 o0, .int .u64 o2, .int .u64 o3, .int .u64 c3]) ?_ rfl ⟨o0, o2, o3, c3, rfl, ⟨u0, v0⟩, ⟨u4, v4⟩, ⟨u6, v6⟩, ⟨u7, v7⟩, HW.out, (((bel2.setCell (Nat.le_refl _) _).setCell (Nat.le_refl _) _).setCell (Nat.le_refl _) _).setCell (Nat.le_refl _) _⟩
          simp [results, Try.results33, go_sem, s0, s1, s2, s3]

theorem or32 (c o : Int) (c0 : 0 ≤ c) (c1 : c ≤ 4294967295) (o0 : 0 ≤ o) (o1 : o ≤ 4294967295) : bits .or .u64 (c * 4294967296) o = c * 4294967296 + o := by
  obtain ⟨C, rfl⟩ := Int.eq_ofNat_of_zero_le c0
  obtain ⟨O, rfl⟩ := Int.eq_ofNat_of_zero_le o0
  have e1 : (C : Int) * 4294967296 = ((2 ^ 32 * C : Nat) : Int) := by omega
  rw [e1, bits_or_u64_nat _ _ (by omega) (by omega), ← Nat.two_pow_add_eq_or_of_lt (show O < 2 ^ 32 by omega) C]
  omega

set_option maxHeartbeats 1000000 in
theorem rmul_any (a b : Int) (ha : I64 a) (hb : I64 b) (w : World) :
    Calls Try.prog 26 #[.int .i64 a, .int .i64 b] w fun e w' => e = .returned (.agg #[.int .i64 (hiW (a * b)), .int .u64 (loW (a * b))]) ∧ Below w.heap.size w w' := by
  have s1 := fun w0 => rsize_any a ha w0
  have s2 := fun w0 => rsize_any b hb w0
  obtain ⟨x, hx⟩ : ∃ x, x = if a < 0 then -a else a := ⟨_, rfl⟩
  obtain ⟨y, hy⟩ : ∃ y, y = if b < 0 then -b else b := ⟨_, rfl⟩
  rw [← hx] at s1
  rw [← hy] at s2
  have xb : 0 ≤ x ∧ x ≤ 9223372036854775808 := by unfold I64 at ha; rw [hx]; split <;> omega
  have yb : 0 ≤ y ∧ y ≤ 9223372036854775808 := by unfold I64 at hb; rw [hy]; split <;> omega
  have pb : 0 ≤ x * y ∧ x * y ≤ 85070591730234615865843651857942052864 := ⟨Int.mul_nonneg xb.1 yb.1, Int.mul_le_mul xb.2 yb.2 yb.1 (by omega)⟩
  have sg : (decide (a < 0) == decide (b < 0)) = false ∧ a * b = -(x * y) ∨ (decide (a < 0) == decide (b < 0)) = true ∧ a * b = x * y := by
    rw [hx, hy]
    by_cases pa : a < 0 <;> by_cases pc : b < 0
    · exact Or.inr ⟨by simp [pa, pc], by rw [if_pos pa, if_pos pc, Int.neg_mul_neg]⟩
    · exact Or.inl ⟨by simp [pa, pc], by rw [if_pos pa, if_neg pc, Int.neg_mul, Int.neg_neg]⟩
    · exact Or.inl ⟨by simp [pa, pc], by rw [if_neg pa, if_pos pc, Int.mul_neg, Int.neg_neg]⟩
    · exact Or.inr ⟨by simp [pa, pc], by rw [if_neg pa, if_neg pc]⟩
  obtain ⟨xb0, xb1⟩ := xb
  obtain ⟨yb0, yb1⟩ := yb
  obtain ⟨pb0, pb1⟩ := pb
  have HS := Lib.hid sg; have H1 := Lib.hid s1; have H2 := Lib.hid s2
  clear s1 s2 hx hy sg
  go_enter Try.func26, Try.ntmps26
  go_wp2_with fail
  refine (H1.out _).mono ?_
  rintro e w' ⟨rfl, rfl⟩
  go_wp2_with fail
  refine (H2.out _).mono ?_
  rintro e w' ⟨rfl, rfl⟩
  go_wp2_with fail
  refine (limbs_any x y xb0 (by omega) yb0 (by omega) _).mono ?_
  rintro e w1 ⟨o0, o2, o3, c3, rfl, ⟨a1, a2⟩, ⟨b1, b2⟩, ⟨d1, d2⟩, ⟨e1, e2⟩, whole, bel⟩
  have q1 := or32 c3 o3 e1 e2 d1 d2
  have q2 := or32 o2 o0 b1 b2 a1 a2
  have hv : c3 * 4294967296 + o3 = hiW (x * y) := by
    have W : W128 (x * y) := ⟨by omega, by omega⟩
    rw [hiW_of W, whole]; omega
  have lv : o2 * 4294967296 + o0 = loW (x * y) := by unfold loW; rw [whole]; omega
  have kb : c3 * 4294967296 + o3 ≤ 9223372036854775807 := by omega
  rw [hv] at q1
  rw [lv] at q2
  generalize x * y = X at *
  have hb0 := hiW_bd X
  obtain ⟨hb0, hb1⟩ := hb0
  have hb2 : 0 ≤ hiW X := by omega
  have HW := Lib.hid whole
  clear whole hv lv kb
  have R := (Cell2.new w (.int .i64 0) (.int .u64 0) 28).below bel
  have bel1 : Below w.heap.size w w1 := ((Below.refl _ _).alloc (Nat.le_refl _) _).trans (bel.mono (by simp))
  clear bel
  rcases HS.out with ⟨g1, g2⟩ | ⟨g1, g2⟩
  · have G2 := Lib.hid g2
    clear g2
    obtain ⟨_, r1, r2, r3, r4⟩ := id R
    go_wp2_with fail
    refine (rneg_any X _).mono ?_
    rintro e w2 ⟨rfl, b2'⟩
    have s1 := bel1.size
    have bel2 : Below w.heap.size w w2 := (((bel1.alloc s1 _).alloc (by simp; omega) _).trans (b2'.mono (by simp; omega)))
    have R2 := ((R.alloc (.cells #[.int .u64 o0, .int .u64 o2, .int .u64 o3, .int .u64 c3] 57)).alloc (.cells #[.int .i64 (hiW X), .int .u64 (loW X)] 28)).below b2'
    clear r1 r2 r3 r4 R
    obtain ⟨_, r1, r2, r3, r4⟩ := id R2
    go_wp2
    obtain ⟨_, t1, t2, _, _⟩ := R2.set (.int .i64 (hiW (-X))) (.int .u64 (loW (-X)))
    rw [G2.out]
    refine bodyPost_ret (v := .agg #[.int .i64 (hiW (-X)), .int .u64 (loW (-X))]) ?_ rfl ⟨rfl, (bel2.setCell (Nat.le_refl _) _).setCell (Nat.le_refl _) _⟩
    simp [results, Try.results26, go_sem, t1, t2]
  · have G2 := Lib.hid g2
    clear g2
    obtain ⟨_, r1, r2, r3, r4⟩ := id R
    go_wp2
    have s1 := bel1.size
    obtain ⟨t0, t1, t2, _, _⟩ := ((R.set (.int .i64 (hiW X)) (.int .u64 (loW X))).alloc (.cells #[.int .u64 o0, .int .u64 o2, .int .u64 o3, .int .u64 c3] 57)).alloc (.cells #[.int .i64 (hiW X), .int .u64 (loW X)] 28)
    rw [G2.out]
    refine bodyPost_ret (v := .agg #[.int .i64 (hiW X), .int .u64 (loW X)]) ?_ rfl ⟨rfl, (((bel1.setCell (Nat.le_refl _) _).setCell (Nat.le_refl _) _).alloc (by simpa [World.setCell] using s1) _).alloc (by simp [World.setCell]; omega) _⟩
    simp [results, Try.results26, go_sem, t1, t2]
end Go.Proofs.Ytddlannblopbeaa
