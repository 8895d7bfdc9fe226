/-
  Contracts of the document's own answers (sheafref1) to chapter 1: Of, Add, Int, and the opposite of a number: what each returns, for every argument of its type; nothing that was in memory turns.
-/
import Derived.Test.YtddlannblopbeaaWInt
import Derived.Test.YtddlannblopbeaaWAdd
namespace Go.Proofs.Ytddlannblopbeaa
set_option linter.unusedVariables false
set_option linter.unusedSimpArgs false
open Go.RowKit

set_option maxHeartbeats 400000 in
theorem rof_any (n : Int) (h : I64 n) (w : World) :
    Calls Try.prog 14 #[.int .i64 n] w fun e w' => e = .returned (.agg #[.int .i64 (hiW n), .int .u64 (loW n)]) ∧ Below w.heap.size w w' := by
  obtain ⟨n1, n2⟩ := h
  have e2 : IntKind.u64.wrap n = loW n := by rw [IntKind.wrap_u64]; rfl
  by_cases hs : n < 0
  · have e1 : -1 = hiW n := by unfold hiW; omega
    go_enter Try.func14, Try.ntmps14
    go_wp2
    rw [← e1]
    exact bodyPost_ret (v := .agg #[.int .i64 (-1), .int .u64 (loW n)]) (by simp [results, Try.results14, go_sem]) rfl ⟨rfl, (Below.refl _ _).alloc (Nat.le_refl _) _⟩
  · have e1 : 0 = hiW n := by unfold hiW; omega
    have e3 : loW n = n := by unfold loW; omega
    rw [← e1, e3]
    clear e2 e1 e3
    go_enter Try.func14, Try.ntmps14
    go_wp2
    exact bodyPost_ret (v := .agg #[.int .i64 0, .int .u64 n]) (by simp [results, Try.results14, go_sem]) rfl ⟨rfl, (Below.refl _ _).alloc (Nat.le_refl _) _⟩

set_option maxHeartbeats 400000 in
theorem radd_any (x y : Int) (w : World) :
    Calls Try.prog 13 #[.agg #[.int .i64 (hiW x), .int .u64 (loW x)], .agg #[.int .i64 (hiW y), .int .u64 (loW y)]] w fun e w' => e = .returned (.agg #[.int .i64 (hiW (x + y)), .int .u64 (loW (x + y))]) ∧ Below w.heap.size w w' := by
  obtain ⟨lx, lx'⟩ := loW_bd x; obtain ⟨ly, ly'⟩ := loW_bd y; obtain ⟨hx, hx'⟩ := hiW_bd x; obtain ⟨hy, hy'⟩ := hiW_bd y
  have f1 : IntKind.u64.wrap (loW x + loW y) = loW (x + y) := by rw [IntKind.wrap_u64]; unfold loW; omega
  obtain ⟨lz, lz'⟩ := loW_bd (x + y)
  by_cases hc : loW (x + y) < loW x
  · have f2 : wrap64 (wrap64 (hiW x + hiW y) + 1) = hiW (x + y) := by unfold hiW wrap64; unfold loW at hc; omega
    have F2 := Lib.hid f2
    clear f2
    go_enter Try.func13, Try.ntmps13
    go_wp2
    simp only [F2.out]
    exact bodyPost_ret (v := .agg #[.int .i64 (hiW (x + y)), .int .u64 (loW (x + y))]) (by simp [results, Try.results13, go_sem]) rfl ⟨rfl, (((Below.refl _ _).alloc (Nat.le_refl _) _).alloc (by simp) _).alloc (by simp; omega) _⟩
  · have f2 : wrap64 (hiW x + hiW y) = hiW (x + y) := by unfold hiW wrap64; unfold loW at hc; omega
    have F2 := Lib.hid f2
    clear f2
    go_enter Try.func13, Try.ntmps13
    go_wp2
    simp only [F2.out]
    exact bodyPost_ret (v := .agg #[.int .i64 (hiW (x + y)), .int .u64 (loW (x + y))]) (by simp [results, Try.results13, go_sem]) rfl ⟨rfl, (((Below.refl _ _).alloc (Nat.le_refl _) _).alloc (by simp) _).alloc (by simp; omega) _⟩

theorem xor_ones_u64 (v : Int) (h0 : 0 ≤ v) (h1 : v ≤ 18446744073709551615) : bits BinOp.xor IntKind.u64 (if IntKind.u64.signed = true then -1 else IntKind.u64.max) v = 18446744073709551615 - v := by
  have ones : BitVec.ofInt 64 IntKind.u64.max = BitVec.allOnes 64 := by decide
  have f : bits BinOp.xor IntKind.u64 IntKind.u64.max v = IntKind.u64.wrap ((BitVec.ofInt 64 IntKind.u64.max ^^^ BitVec.ofInt 64 v).toNat : Nat) := rfl
  rw [if_neg (by decide), f, ones, BitVec.allOnes_xor, BitVec.toNat_not, BitVec.toNat_ofInt, IntKind.wrap_u64]
  omega
theorem xor_ones_i64 (v : Int) (h0 : -9223372036854775808 ≤ v) (h1 : v ≤ 9223372036854775807) : bits BinOp.xor IntKind.i64 (if IntKind.i64.signed = true then -1 else IntKind.i64.max) v = -1 - v := by
  have ones : BitVec.ofInt 64 (-1) = BitVec.allOnes 64 := by decide
  have f : bits BinOp.xor IntKind.i64 (-1) v = IntKind.i64.wrap ((BitVec.ofInt 64 (-1) ^^^ BitVec.ofInt 64 v).toNat : Nat) := rfl
  rw [if_pos (by decide), f, ones, BitVec.allOnes_xor, BitVec.toNat_not, BitVec.toNat_ofInt, IntKind.wrap_i64]
  omega

set_option maxHeartbeats 400000 in
theorem rneg_any (x : Int) (w : World) :
    Calls Try.prog 32 #[.agg #[.int .i64 (hiW x), .int .u64 (loW x)]] w fun e w' => e = .returned (.agg #[.int .i64 (hiW (-x)), .int .u64 (loW (-x))]) ∧ Below w.heap.size w w' := by
  obtain ⟨lx, lx'⟩ := loW_bd x; obtain ⟨hx, hx'⟩ := hiW_bd x
  obtain ⟨ly, ly'⟩ := loW_bd (-x)
  obtain ⟨L, n1⟩ : ∃ L, bits BinOp.xor IntKind.u64 (if IntKind.u64.signed = true then -1 else IntKind.u64.max) (loW x) = L := ⟨_, rfl⟩
  obtain ⟨G, n2⟩ : ∃ G, bits BinOp.xor IntKind.i64 (if IntKind.i64.signed = true then -1 else IntKind.i64.max) (hiW x) = G := ⟨_, rfl⟩
  have eL : L = 18446744073709551615 - loW x := by rw [← n1]; exact xor_ones_u64 _ lx lx'
  have eG : G = -1 - hiW x := by rw [← n2]; exact xor_ones_i64 _ hx hx'
  have n3 : bits BinOp.xor IntKind.i64 (-1) (hiW x) = G := by rw [← n2, if_pos (by decide)]
  have m1 : IntKind.u64.wrap (L + 1) = loW (-x) := by rw [IntKind.wrap_u64, eL]; unfold loW; omega
  by_cases hz : loW (-x) = 0
  · have f2 : wrap64 (G + 1) = hiW (-x) := by rw [eG]; unfold hiW wrap64; unfold loW at hz; omega
    have bz : (loW (-x) == 0) = true := by simpa using hz
    have F2 := Lib.hid f2
    have F1 := Lib.hid m1
    have m2 : (IntKind.u64.wrap (L + 1) == 0) = true := by rw [m1]; exact bz
    have g1 : -9223372036854775808 ≤ G := by omega
    have g2 : G ≤ 9223372036854775807 := by omega
    clear f2 m1 eL eG hz bz
    go_enter Try.func32, Try.ntmps32
    go_wp2
    simp only [F1.out, F2.out]
    exact bodyPost_ret (v := .agg #[.int .i64 (hiW (-x)), .int .u64 (loW (-x))]) (by simp [results, Try.results32, go_sem]) rfl ⟨rfl, ((Below.refl _ _).alloc (Nat.le_refl _) _).alloc (by simp) _⟩
  · have f2 : G = hiW (-x) := by rw [eG]; unfold hiW; unfold loW at hz; omega
    have bz : (loW (-x) == 0) = false := by simpa using hz
    have F2 := Lib.hid f2
    have F1 := Lib.hid m1
    have m2 : (IntKind.u64.wrap (L + 1) == 0) = false := by rw [m1]; exact bz
    clear f2 m1 eL eG hz bz
    go_enter Try.func32, Try.ntmps32
    go_wp2
    simp only [F1.out, F2.out]
    exact bodyPost_ret (v := .agg #[.int .i64 (hiW (-x)), .int .u64 (loW (-x))]) (by simp [results, Try.results32, go_sem]) rfl ⟨rfl, ((Below.refl _ _).alloc (Nat.le_refl _) _).alloc (by simp) _⟩

set_option maxHeartbeats 400000 in
theorem rsize_any (n : Int) (h : I64 n) (w : World) :
    Calls Try.prog 34 #[.int .i64 n] w fun e w' => e = .returned (.int .u64 (if n < 0 then -n else n)) ∧ w = w' := by
  obtain ⟨n1, n2⟩ := h
  by_cases hs : n < 0
  · rw [if_pos hs]
    go_enter Try.func34, Try.ntmps34
    go_wp2
    go_ret
    exact ⟨congrArg (fun n : Int => Ending.returned (Value.int IntKind.u64 n)) (by omega), rfl⟩
  · rw [if_neg hs]
    go_enter Try.func34, Try.ntmps34
    go_wp2
    go_ret
    exact ⟨rfl, rfl⟩

set_option maxHeartbeats 400000 in
theorem rint_yes (x : Int) (h : I64 x) (w : World) :
    Calls Try.prog 15 #[.agg #[.int .i64 (hiW x), .int .u64 (loW x)]] w fun e w' => e = .returned (.tuple #[.int .i64 x, .bool true]) ∧ Below w.heap.size w w' := by
  have e1 := (int_forms x).2.1 h
  go_enter Try.func15, Try.ntmps15
  go_wp2
  go_region_held3 (fun w' => w.heap.size < w'.heap.size ∧ w'.cell? ⟨w.heap.size, 0, none⟩ = some (.int .i64 (hiW x)) ∧ w'.cell? ⟨w.heap.size, 1, none⟩ = some (.int .u64 (loW x))) (first | exact keep1 ‹Below _ _ _› ‹_ ∧ _› | (simp [go_sem, World.cell?_alloc_past]; done))
    (first
      | (go_at_call 14; refine (rof_any x h _).mono ?_; rintro e w' ⟨rfl, hb⟩))
  go_wp2
  go_ret2
  exact ⟨rfl, ((Below.refl _ _).alloc (Nat.le_refl _) _).drew.trans (hb.mono (by simp))⟩
set_option maxHeartbeats 400000 in
theorem rint_no (x : Int) (hx : W128 x) (h : ¬ I64 x) (w : World) :
    Calls Try.prog 15 #[.agg #[.int .i64 (hiW x), .int .u64 (loW x)]] w fun e w' => e = .returned (.tuple #[.int .i64 0, .bool false]) ∧ Below w.heap.size w w' := by
  obtain ⟨e1, _, e2⟩ := int_forms x
  replace e2 := e2 hx h
  go_enter Try.func15, Try.ntmps15
  go_wp2
  go_region_held3 (fun w' => w.heap.size < w'.heap.size ∧ w'.cell? ⟨w.heap.size, 0, none⟩ = some (.int .i64 (hiW x)) ∧ w'.cell? ⟨w.heap.size, 1, none⟩ = some (.int .u64 (loW x))) (first | exact keep1 ‹Below _ _ _› ‹_ ∧ _› | (simp [go_sem, World.cell?_alloc_past]; done))
    (first
      | (go_at_call 14; refine (rof_any _ e1 _).mono ?_; rintro e w' ⟨rfl, hb⟩))
  go_wp2
  go_ret2
  exact ⟨rfl, ((Below.refl _ _).alloc (Nat.le_refl _) _).drew.trans (hb.mono (by simp))⟩
end Go.Proofs.Ytddlannblopbeaa
