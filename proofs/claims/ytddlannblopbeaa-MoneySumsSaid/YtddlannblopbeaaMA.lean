/-
  Contracts of package money: Scale, Split, and a Sum's methods: what each returns, for every argument of its type; of what was in memory only the Sum itself turns.
-/
import Derived.Test.YtddlannblopbeaaWMul
import Derived.Test.YtddlannblopbeaaWInt
import Derived.Test.YtddlannblopbeaaWAdd
import Derived.Test.YtddlannblopbeaaWNear
import Derived.Test.YtddlannblopbeaaWCell
import Derived.Deep.RegionWith
namespace Go.Proofs.Ytddlannblopbeaa
set_option linter.unusedVariables false
set_option linter.unusedSimpArgs false
open Go.RowKit

theorem scale_yes (n m d q : Int) (hn : I64 n) (hm : I64 m) (d0 : 0 < d) (d1 : d ≤ 9223372036854775807) (hq : nearS (n * m) d = q) (h : I64 q) (w : World) :
    Calls Try.prog 8 #[.int .i64 n, .int .i64 m, .int .i64 d] w fun e w' => e = .returned (.tuple #[.int .i64 q, .bool true]) ∧ Below w.heap.size w w' := by
  have hP := prod_W128 hn hm
  have k := fun w0 => quo_yes (n * m) d hP d0 d1 (by rw [hq]; exact h) w0
  rw [hq] at k
  clear hq
  go_enter Try.func8, Try.ntmps8
  go_wp2_with fail
  refine (mul_any n m hn hm _).mono ?_
  rintro e w1 ⟨rfl, b1⟩
  generalize n * m = P at *
  go_wp2_with fail
  refine (k _).mono ?_
  rintro e w2 ⟨rfl, b2⟩
  go_wp2
  go_ret2
  exact ⟨rfl, bstep b1 b2⟩
theorem scale_no (n m d : Int) (hn : I64 n) (hm : I64 m) (d0 : 0 < d) (d1 : d ≤ 9223372036854775807) (h : ¬ I64 (nearS (n * m) d)) (w : World) :
    Calls Try.prog 8 #[.int .i64 n, .int .i64 m, .int .i64 d] w fun e w' => e = .returned (.tuple #[.int .i64 0, .bool false]) ∧ Below w.heap.size w w' := by
  have hP := prod_W128 hn hm
  have q := fun w0 => quo_no (n * m) d hP d0 d1 h w0
  go_enter Try.func8, Try.ntmps8
  go_wp2_with fail
  refine (mul_any n m hn hm _).mono ?_
  rintro e w1 ⟨rfl, b1⟩
  generalize n * m = P at *
  go_wp2_with fail
  refine (q _).mono ?_
  rintro e w2 ⟨rfl, b2⟩
  go_wp2
  go_ret2
  exact ⟨rfl, bstep b1 b2⟩
theorem scale_bad (n m d : Int) (hn : I64 n) (hm : I64 m) (hd : d ≤ 0) (w : World) :
    Calls Try.prog 8 #[.int .i64 n, .int .i64 m, .int .i64 d] w fun e w' => e = .returned (.tuple #[.int .i64 0, .bool false]) ∧ Below w.heap.size w w' := by
  have q := fun w0 => quo_bad (n * m) d hd w0
  go_enter Try.func8, Try.ntmps8
  go_wp2_with fail
  refine (mul_any n m hn hm _).mono ?_
  rintro e w1 ⟨rfl, b1⟩
  generalize n * m = P at *
  go_wp2_with fail
  refine (q _).mono ?_
  rintro e w2 ⟨rfl, b2⟩
  go_wp2
  go_ret2
  exact ⟨rfl, bstep b1 b2⟩

theorem bdrew {w a : World} (c : Below w.drew.heap.size w.drew a) : Below w.heap.size w a := (Below.refl w.heap.size w).drew.trans c
/-- What is left behind a Sum's Add or Join: its own two words anew, all else as it was. -/
def SumSet (w w' : World) (b : Nat) (v : Int) : Prop := ∃ w1, Below w.heap.size w w1 ∧ w' = (w1.setCell ⟨b, 0, none⟩ (.int .i64 (hiW v))).setCell ⟨b, 1, none⟩ (.int .u64 (loW v))
theorem SumSet.cell {w w' : World} {b : Nat} {v : Int} {u0 u1 : Value} (h : SumSet w w' b v) (hc : Cell2 w b u0 u1) : Cell2 w' b (.int .i64 (hiW v)) (.int .u64 (loW v)) := by
  obtain ⟨w1, hb, rfl⟩ := h
  exact (hc.below hb).set _ _
theorem SumSet.far {w w' : World} {b n : Nat} {v : Int} {u0 u1 : Value} (h : SumSet w w' b v) (hne : b ≠ n) (hc : Cell2 w n u0 u1) : Cell2 w' n u0 u1 := by
  obtain ⟨w1, hb, rfl⟩ := h
  exact (hc.below hb).far hne _ _
theorem SumSet.below {w0 w w' : World} {b : Nat} {v : Int} (h : SumSet w w' b v) (h0 : Below w0.heap.size w0 w) (hn : w0.heap.size ≤ b) : Below w0.heap.size w0 w' := by
  obtain ⟨w1, hb, rfl⟩ := h
  exact ((bstep h0 hb).setCell hn _).setCell hn _
set_option maxHeartbeats 400000 in
theorem sadd_any (v n : Int) (hn : I64 n) (b : Nat) (w : World) (hc : Cell2 w b (.int .i64 (hiW v)) (.int .u64 (loW v))) :
    Calls Try.prog 10 #[.pointer (some ⟨b, 0, none⟩), .int .i64 n] w fun e w' => e = .returned (.tuple #[]) ∧ SumSet w w' b (v + n) := by
  have HC := Lib.hid hc
  obtain ⟨h0, h1, h2, h3, h4⟩ := hc
  go_enter Try.func10, Try.ntmps10
  go_wp2_with fail
  go_region_with (first
    | (go_at_call 23; refine (of_any n hn _).mono ?_; rintro e m1 ⟨rfl, c1⟩; have C1 := Cell2.below HC.out.drew c1; have B1 := c1; obtain ⟨_, y1, y2, y3, y4⟩ := id C1)
    | (go_at_call 22; refine (add_any v n _).mono ?_; rintro e m2 ⟨rfl, c2⟩; have C2 := Cell2.below C1 c2; have B2 := bstep B1 c2; obtain ⟨_, t1, t2, t3, t4⟩ := id C2))
  all_goals
    go_wp2
    go_end0
    exact ⟨rfl, m2, bdrew B2, rfl⟩

set_option maxHeartbeats 400000 in
theorem sjoin_any (v u : Int) (b : Nat) (w : World) (hc : Cell2 w b (.int .i64 (hiW v)) (.int .u64 (loW v))) :
    Calls Try.prog 19 #[.pointer (some ⟨b, 0, none⟩), .agg #[.int .i64 (hiW u), .int .u64 (loW u)]] w fun e w' => e = .returned (.tuple #[]) ∧ SumSet w w' b (v + u) := by
  have HC := Lib.hid hc
  obtain ⟨h0, h1, h2, h3, h4⟩ := hc
  go_enter Try.func19, Try.ntmps19
  go_wp2_with fail
  have hn := Cell2.new w (.int .i64 (hiW u)) (.int .u64 (loW u)) 30
  have hb := HC.out.alloc (.cells #[.int .i64 (hiW u), .int .u64 (loW u)] 30)
  have B0 := (Below.refl w.heap.size w).alloc (Nat.le_refl _) (.cells #[.int .i64 (hiW u), .int .u64 (loW u)] 30)
  have HB := Lib.hid hb
  clear HC h1 h2 h3 h4 h0
  generalize w.alloc (.cells #[.int .i64 (hiW u), .int .u64 (loW u)] 30) = W at *
  obtain ⟨_, h1, h2, h3, h4⟩ := hb
  obtain ⟨_, g1, g2, g3, g4⟩ := hn
  go_region_with (first
    | (go_at_call 22; refine (add_any v u _).mono ?_; rintro e m2 ⟨rfl, c2⟩; have C2 := Cell2.below HB.out.drew c2; have B2 := bstep B0 (bdrew c2); obtain ⟨_, t1, t2, t3, t4⟩ := id C2))
  all_goals
    go_wp2
    go_end0
    exact ⟨rfl, m2, B2, rfl⟩

theorem swide_any (v : Int) (b : Nat) (w : World) (hc : Cell2 w b (.int .i64 (hiW v)) (.int .u64 (loW v))) :
    Calls Try.prog 16 #[.pointer (some ⟨b, 0, none⟩)] w fun e w' => e = .returned (.agg #[.int .i64 (hiW v), .int .u64 (loW v)]) ∧ Below w.heap.size w w' := by
  obtain ⟨h0, h1, h2, h3, h4⟩ := hc
  go_enter Try.func16, Try.ntmps16
  go_wp2
  exact bodyPost_ret (v := .agg #[.int .i64 (hiW v), .int .u64 (loW v)]) (by simp [results, Try.results16, go_sem]) rfl ⟨rfl, (Below.refl _ _).alloc (Nat.le_refl _) _⟩
theorem svalue_yes (v : Int) (hv : I64 v) (b : Nat) (w : World) (hc : Cell2 w b (.int .i64 (hiW v)) (.int .u64 (loW v))) :
    Calls Try.prog 11 #[.pointer (some ⟨b, 0, none⟩)] w fun e w' => e = .returned (.tuple #[.int .i64 v, .bool true]) ∧ Below w.heap.size w w' := by
  obtain ⟨h0, h1, h2, h3, h4⟩ := hc
  go_enter Try.func11, Try.ntmps11
  go_wp2_with fail
  refine (int_yes v hv _).mono ?_
  rintro e w2 ⟨rfl, b2⟩
  go_wp2
  go_ret2
  exact ⟨rfl, b2⟩
theorem svalue_no (v : Int) (h : W128 v) (hv : ¬ I64 v) (b : Nat) (w : World) (hc : Cell2 w b (.int .i64 (hiW v)) (.int .u64 (loW v))) :
    Calls Try.prog 11 #[.pointer (some ⟨b, 0, none⟩)] w fun e w' => e = .returned (.tuple #[.int .i64 0, .bool false]) ∧ Below w.heap.size w w' := by
  obtain ⟨h0, h1, h2, h3, h4⟩ := hc
  go_enter Try.func11, Try.ntmps11
  go_wp2_with fail
  refine (int_no v h hv _).mono ?_
  rintro e w2 ⟨rfl, b2⟩
  go_wp2
  go_ret2
  exact ⟨rfl, b2⟩

/-- A part brought to 0 to 10000, and that part of a number. -/
def partI (p : Int) : Int := min (max p 0) 10000
theorem partI_bd (p : Int) : 0 ≤ partI p ∧ partI p ≤ 10000 := by unfold partI; omega
theorem partI_in (p : Int) (h0 : 0 ≤ p) (h1 : p ≤ 10000) : partI p = p := by unfold partI; omega
def shareI (n p : Int) : Int := nearS (n * partI p) 10000
theorem nearS_10000 (x : Int) : -5000 ≤ 10000 * nearS x 10000 - x ∧ 10000 * nearS x 10000 - x ≤ 5000 ∧ (0 ≤ x → 0 ≤ nearS x 10000) ∧ (x ≤ 0 → nearS x 10000 ≤ 0) ∧ (∀ n, 0 ≤ n → x ≤ n * 10000 → nearS x 10000 ≤ n) ∧ (∀ n, n ≤ 0 → n * 10000 ≤ x → n ≤ nearS x 10000) := by
  unfold nearS near
  refine ⟨?_, ?_, ?_, ?_, ?_, ?_⟩
  all_goals (try intro n)
  all_goals (split <;> split <;> (try split) <;> (try split) <;> omega)
theorem share_prod (n p : Int) : (0 ≤ n → 0 ≤ n * partI p ∧ n * partI p ≤ n * 10000) ∧ (n ≤ 0 → n * 10000 ≤ n * partI p ∧ n * partI p ≤ 0) := by
  obtain ⟨h0, h1⟩ := partI_bd p
  refine ⟨fun h => ⟨Int.mul_nonneg h h0, Int.mul_le_mul_of_nonneg_left h1 h⟩, fun h => ⟨Int.mul_le_mul_of_nonpos_left h h1, ?_⟩⟩
  have := Int.mul_le_mul_of_nonpos_left h h0
  omega
theorem share_bd (n p : Int) : (0 ≤ n → 0 ≤ shareI n p ∧ shareI n p ≤ n) ∧ (n ≤ 0 → n ≤ shareI n p ∧ shareI n p ≤ 0) := by
  obtain ⟨a1, a2⟩ := share_prod n p
  obtain ⟨_, _, b3, b4, b5, b6⟩ := nearS_10000 (n * partI p)
  unfold shareI
  exact ⟨fun h => ⟨b3 (a1 h).1, b5 n h (a1 h).2⟩, fun h => ⟨b6 n h (a2 h).1, b4 (a2 h).2⟩⟩
theorem share_I64 {n p : Int} (hn : I64 n) : I64 (shareI n p) ∧ I64 (n - shareI n p) := by
  obtain ⟨a1, a2⟩ := share_bd n p
  unfold I64 at *
  rcases Int.le_total 0 n with h | h
  · have := a1 h; omega
  · have := a2 h; omega

set_option maxHeartbeats 400000 in
theorem split_any (n p : Int) (hn : I64 n) (w : World) :
    Calls Try.prog 9 #[.int .i64 n, .int .i64 p] w fun e w' => e = .returned (.tuple #[.int .i64 (shareI n p), .int .i64 (n - shareI n p)]) ∧ Below w.heap.size w w' := by
  obtain ⟨h1, h2⟩ := share_I64 (p := p) hn
  have hP : I64 (partI p) := by have := partI_bd p; unfold I64; omega
  have k := fun w0 => scale_yes n (partI p) 10000 (shareI n p) hn hP (by decide) (by decide) rfl h1 w0
  have hw : IntKind.i64.wrap (n - shareI n p) = n - shareI n p := by rw [IntKind.wrap_i64]; unfold I64 at h2; omega
  have hw' : wrap64 (n - shareI n p) = n - shareI n p := by unfold wrap64; unfold I64 at h2; omega
  unfold partI at k
  clear hP
  generalize shareI n p = S at *
  go_enter Try.func9, Try.ntmps9
  go_wp2_with fail
  refine (k _).mono ?_
  rintro e w1 ⟨rfl, b1⟩
  go_wp2
  go_ret2
  exact ⟨rfl, b1⟩
end Go.Proofs.Ytddlannblopbeaa
