/-
  Numbers of 128 bits as two words: plain arithmetic. No program in this text.
  An argument of type int that fits its kind is an int.
  Arguments that came in, as the walks of stage 3 want them: slices of bytes, bytes, words.
  The contract of the book's Within: it brings a number into the span from lo to hi; the world is as it was.
  The book's Within, of an int and a span that is no longer than the ints: what it returns is in the span; the world is as it was.
  A slice of structs of one-cell fields, as an argument's reading has it.
  A leaf as an argument's reading has it.
  A row of files, and a catalog, as an argument's reading has them.
  A catalog that came in: what is known of it.
  One bit of a row turned, in the maths of the remainder.
-/
import Derived.WalkKit
import Derived.Test.YtoolmmjiemkpbaaCrcW
import Derived.ProofKit
import Derived.OpenShut
import Derived.Test.YtoolmmjiemkpbaaProg
import Derived.WalkSpells
import Derived.WalkLawsBesides
import Derived.Lib.Hide
import Derived.Deep.QuietTactic
import Derived.BigQuiet
import Derived.Deep.Fields
import Derived.Deep.Slices
import Derived.Test.YtoolmmjiemkpbaaLA
import Derived.Test.YtoolmmjiemkpbaaCA
import Derived.Test.YtoolmmjiemkpbaaCF
import Derived.Test.YtoolmmjiemkpbaaWOwn
namespace Go.Proofs.Ytoolmmjiemkpbaa
set_option linter.unusedVariables false
set_option linter.unusedSimpArgs false

/-- The high word of a number, round at 2^128. -/
def hiW (v : Int) : Int := (v / 18446744073709551616 + 9223372036854775808) % 18446744073709551616 - 9223372036854775808
/-- The low word of a number. -/
def loW (v : Int) : Int := v % 18446744073709551616
/-- An int. -/
def I64 (n : Int) : Prop := -9223372036854775808 ≤ n ∧ n ≤ 9223372036854775807
/-- A number of 128 bits. -/
def W128 (v : Int) : Prop := -170141183460469231731687303715884105728 ≤ v ∧ v < 170141183460469231731687303715884105728

theorem hiW_of {v : Int} (h : W128 v) : hiW v = v / 18446744073709551616 := by unfold W128 at h; unfold hiW; omega
theorem hiW_bd (v : Int) : -9223372036854775808 ≤ hiW v ∧ hiW v ≤ 9223372036854775807 := by unfold hiW; omega
theorem loW_bd (v : Int) : 0 ≤ loW v ∧ loW v ≤ 18446744073709551615 := by unfold loW; omega
theorem wide_eq {v : Int} (h : W128 v) : v = hiW v * 18446744073709551616 + loW v := by rw [hiW_of h]; unfold loW; omega
theorem wide_inj {v u : Int} (hv : W128 v) (hu : W128 u) (h1 : hiW v = hiW u) (h2 : loW v = loW u) : v = u := by
  rw [wide_eq hv, wide_eq hu, h1, h2]
theorem prod_bd {a b : Int} (ha : I64 a) (hb : I64 b) : -85070591730234615856620279821087277056 ≤ a * b ∧ a * b ≤ 85070591730234615865843651857942052864 := by
  obtain ⟨a1, a2⟩ := ha; obtain ⟨b1, b2⟩ := hb
  have key : ∀ x y : Int, 0 ≤ x → 0 ≤ y → x ≤ 9223372036854775808 → y ≤ 9223372036854775808 → 0 ≤ x * y ∧ x * y ≤ 85070591730234615865843651857942052864 := by
    intro x y hx hy hx' hy'
    exact ⟨Int.mul_nonneg hx hy, Int.mul_le_mul hx' hy' hy (by omega)⟩
  have key' : ∀ x y : Int, 0 ≤ x → 0 ≤ y → x ≤ 9223372036854775808 → y ≤ 9223372036854775807 → x * y ≤ 85070591730234615856620279821087277056 := by
    intro x y hx hy hx' hy'
    exact Int.mul_le_mul hx' hy' hy (by omega)
  rcases Int.le_total 0 a with pa | pa <;> rcases Int.le_total 0 b with pb | pb
  · have := key a b pa pb (by omega) (by omega); omega
  · have h1 := key a (-b) pa (by omega) (by omega) (by omega)
    have h2 := key' (-b) a (by omega) pa (by omega) (by omega)
    rw [Int.mul_comm (-b), Int.mul_neg] at h2; rw [Int.mul_neg] at h1; omega
  · have h1 := key (-a) b (by omega) pb (by omega) (by omega)
    have h2 := key' (-a) b (by omega) pb (by omega) (by omega)
    rw [Int.neg_mul] at h1 h2; omega
  · have := key (-a) (-b) (by omega) (by omega) (by omega) (by omega)
    rw [Int.neg_mul_neg] at this; omega
theorem prod_W128 {a b : Int} (ha : I64 a) (hb : I64 b) : W128 (a * b) := by have := prod_bd ha hb; unfold W128; omega
theorem I64.W128 {a : Int} (h : I64 a) : W128 a := by unfold I64 at h; unfold Go.Proofs.Ytoolmmjiemkpbaa.W128; omega

/-- -1, 0, 1. -/
def cmpI (x y : Int) : Int := if x < y then -1 else if x = y then 0 else 1

/-- The nearest whole number to x by d, of two as near the even one (d above 0). -/
def near (x d : Int) : Int := if 2 * (x % d) < d then x / d else if d < 2 * (x % d) then x / d + 1 else if x / d % 2 = 0 then x / d else x / d + 1
end Go.Proofs.Ytoolmmjiemkpbaa
namespace Go.Proofs.Ytoolmmjiemkpbaa
set_option linter.unusedVariables false
set_option linter.unusedSimpArgs false
theorem i64_of {x : Int} (h : (Lit.int .i64 x).wf = true) : I64 x := by
  simp [Lit.wf, IntKind.min, IntKind.max, IntKind.signed, IntKind.bits] at h
  exact ⟨by omega, by omega⟩
end Go.Proofs.Ytoolmmjiemkpbaa
namespace Go.Proofs.Ytoolmmjiemkpbaa
set_option linter.unusedVariables false
set_option linter.unusedSimpArgs false
open Go.RowKit

theorem u8_of {x : Int} (h : (Lit.int .u8 x).wf = true) : U8 x := by
  simp [Lit.wf, IntKind.min, IntKind.max, IntKind.signed, IntKind.bits] at h
  exact ⟨by omega, by omega⟩
theorem wrd_of {x : Int} (h : (Lit.int .u32 x).wf = true) : ∃ X : B32, x = wrd X := by
  simp [Lit.wf, IntKind.min, IntKind.max, IntKind.signed, IntKind.bits] at h
  refine ⟨BitVec.ofNat 32 x.toNat, ?_⟩
  unfold wrd
  rw [BitVec.toNat_ofNat]
  omega
theorem rb_of {w : World} {A : Option Addr} {len cap : Nat} {zs : List Int}
    (h : (A = none ∧ len = 0 ∧ cap = 0 ∧ zs = []) ∨ ∃ x, A = some x ∧ len ≤ cap ∧ cap ≤ maxLen ∧ zs.length = cap ∧ (∀ i, i < zs.length → w.cell? (x.add i) = some (.int .u8 (zs.getD i 0))) ∧ ∀ n ∈ zs, (Lit.int .u8 n).wf = true) :
    (zs.take len).length = len ∧ RdB w w.heap.size A (zs.take len) ∧ len ≤ cap ∧ cap ≤ maxLen ∧ (A = none → cap = 0) := by
  rcases h with ⟨rfl, rfl, rfl, rfl⟩ | ⟨x, rfl, h1, h2, h3, h4, h5⟩
  · exact ⟨rfl, fun k hk => absurd hk (by simp), Nat.le_refl _, Nat.zero_le _, fun _ => rfl⟩
  · refine ⟨by rw [List.length_take]; omega, ?_, h1, h2, fun e => by cases e⟩
    refine RdB.take (fun k hk => ?_) len
    obtain ⟨b, o, rfl, hc⟩ := ints_at h4 (by omega)
    refine ⟨b, o, rfl, ?_, hc k hk, ?_⟩
    · exact World.block_lt_of_cell? _ _ (hc k hk)
    · refine u8_of (h5 _ ?_)
      rw [List.getD_eq_getElem?_getD, List.getElem?_eq_getElem hk]
      exact List.getElem_mem hk
end Go.Proofs.Ytoolmmjiemkpbaa
namespace Go.Proofs.Ytoolmmjiemkpbaa
set_option linter.unusedVariables false
set_option linter.unusedSimpArgs false
open Go.RowKit

theorem tmod_emod (n m : Int) (hm : 0 < m) : -m < n.tmod m ∧ n.tmod m < m ∧ (n.tmod m < 0 → n % m = n.tmod m + m) ∧ (0 ≤ n.tmod m → n % m = n.tmod m) := by
  have h1 := Int.emod_nonneg n (show m ≠ 0 by omega)
  have h2 := Int.emod_lt_of_pos n hm
  rcases Int.le_total 0 n with p | p
  · rw [Int.tmod_eq_emod_of_nonneg p]; omega
  · have e : n.tmod m = -((-n) % m) := by
      have : n = -(-n) := by omega
      rw [this, Int.neg_tmod, Int.neg_neg, Int.tmod_eq_emod_of_nonneg (by omega)]
    have g1 := Int.emod_nonneg (-n) (show m ≠ 0 by omega)
    have g2 := Int.emod_lt_of_pos (-n) hm
    have a1 : m * (n / m) + n % m = n := Int.mul_ediv_add_emod n m
    have a2 : m * ((-n) / m) + (-n) % m = -n := Int.mul_ediv_add_emod (-n) m
    have a3 : m * (n / m + (-n) / m) = -(n % m + (-n) % m) := by rw [Int.mul_add]; omega
    rw [e]
    refine ⟨by omega, by omega, fun h => ?_, fun h => ?_⟩
    · have hk : n / m + (-n) / m = -1 := by
        have l1 : n / m + (-n) / m < 0 := by
          rcases Int.lt_or_le (n / m + (-n) / m) 0 with c | c
          · exact c
          · have := Int.mul_nonneg (Int.le_of_lt hm) c; omega
        have l2 : -2 < n / m + (-n) / m := by
          rcases Int.lt_or_le (-2) (n / m + (-n) / m) with c | c
          · exact c
          · have := Int.mul_le_mul_of_nonneg_left c (Int.le_of_lt hm); omega
        omega
      rw [hk] at a3; omega
    · have z : (-n) % m = 0 := by omega
      have hd : m ∣ n := by
        have := Int.dvd_of_emod_eq_zero z
        exact (Int.dvd_neg).1 this
      rw [Int.emod_eq_zero_of_dvd hd]; omega
set_option maxHeartbeats 400000 in
theorem bwithin_any (n lo hi : Int) (n0 : -9223372036854775808 ≤ n) (n1 : n ≤ 9223372036854775807) (l0 : -9223372036854775808 ≤ lo) (hl : lo ≤ hi) (h1 : hi ≤ 9223372036854775807) (hm : hi - lo + 1 ≤ 9223372036854775807) (w : World) :
    Calls Try.prog 24 #[.int .i64 n, .int .i64 lo, .int .i64 hi] w fun e w' => e = .returned (.int .i64 (lo + n % (hi - lo + 1))) ∧ w = w' := by
  obtain ⟨t1, t2, t3, t4⟩ := tmod_emod n (hi - lo + 1) (by omega)
  obtain ⟨T, hT⟩ : ∃ T, n.tmod (hi - lo + 1) = T := ⟨_, rfl⟩
  rw [hT] at t1 t2 t3 t4
  by_cases ht : T < 0
  · have H := Lib.hid (t3 ht)
    clear t3 t4
    go_enter Try.func24, Try.ntmps24
    go_wp2
    rw [H.out]
    go_ret
    exact ⟨congrArg (fun n : Int => Ending.returned (Value.int IntKind.i64 n)) (by omega), rfl⟩
  · have H := Lib.hid (t4 (by omega))
    clear t3 t4
    go_enter Try.func24, Try.ntmps24
    go_wp2
    rw [H.out]
    go_ret
    exact ⟨rfl, rfl⟩
end Go.Proofs.Ytoolmmjiemkpbaa
namespace Go.Proofs.Ytoolmmjiemkpbaa
set_option linter.unusedVariables false
set_option linter.unusedSimpArgs false
open Go.RowKit

theorem within_in (n lo hi : Int) (hn : I64 n) (l0 : -9223372036854775808 ≤ lo) (hl : lo ≤ hi) (h1 : hi ≤ 9223372036854775807) (hm : hi - lo + 1 ≤ 9223372036854775807) (w : World) :
    Calls Try.prog 24 #[.int .i64 n, .int .i64 lo, .int .i64 hi] w fun e w' => ∃ y : Int, e = .returned (.int .i64 y) ∧ lo ≤ y ∧ y ≤ hi ∧ w = w' := by
  refine (bwithin_any n lo hi hn.1 hn.2 l0 hl h1 hm w).mono fun e w' ⟨he, hw⟩ => ⟨_, he, ?_, ?_, hw⟩
  · have := Int.emod_nonneg n (show hi - lo + 1 ≠ 0 by omega); omega
  · have := Int.emod_lt_of_pos n (show 0 < hi - lo + 1 by omega); omega
end Go.Proofs.Ytoolmmjiemkpbaa
namespace Go.Proofs.Ytoolmmjiemkpbaa
set_option linter.unusedVariables false
set_option linter.unusedSimpArgs false
open Go.RowKit Go.ChangeShapes Go.WideShapes Go.Deep

section
variable {H : Type} {enc : TypeId × Value → H} {P : Program} {w : World} {base : Nat} {spare : Nat → Bool} {held : Bool}
/-- A slice of structs whose fields are one cell each. -/
theorem open_slice_fields {t e : TypeId} {fs : Array Field} {fuel : Nat} {A : Option Addr} {len cap : Nat} {x : DataW H × List MemPlace} (ht : P.underlying t = some (.slice e)) (hs : P.underlying e = some (.struct fs))
    (hone : ∀ (i : Nat) (f : Field), fs[i]? = some f → f.offset = i ∧ P.cellsOf f.type = 1) (hC : P.cellsOf e = fs.size) (hpos : 0 < fs.size) (h : DataW.trod enc P w base spare held fuel t [.slice A len cap] = some x) :
    len ≤ cap ∧ cap ≤ maxLen ∧ (A = none → len = 0 ∧ cap = 0) ∧ ∀ k, k < len → ∃ b o n, A = some ⟨b, o, none⟩ ∧ ∀ (i : Nat) (f : Field), fs[i]? = some f → ∃ v y, w.cell? ⟨b, o + k * fs.size + i, none⟩ = some v ∧ DataW.trod enc P w base spare held n f.type [v] = some y := by
  rcases open_slice ht h with ⟨h0, _⟩ | ⟨a, len', cap', m, n, D, Pl, h0, hb, hl, hm, hmm, rfl, hx⟩
  · injection h0 with h0 _
    injection h0 with h0 h1 h2
    subst h0 h1 h2
    exact ⟨Nat.le_refl _, Nat.zero_le _, fun _ => ⟨rfl, rfl⟩, fun k hk => absurd hk (Nat.not_lt_zero _)⟩
  · injection h0 with h0 _
    injection h0 with h0 h1 h2
    subst h0 h1 h2
    refine ⟨hl, hm, fun e => (by cases e), fun k hk => ?_⟩
    have hkm : k < m := by
      rw [hmm]
      split <;> omega
    obtain ⟨cs', h1, h2⟩ := hx k hkm
    obtain ⟨_, hlen, hcell⟩ := World.cells?_some h1
    rw [hC] at hlen hcell
    obtain ⟨xs, n', _, _, _, hxl, hf⟩ := DataW.trod_struct hs h2
    obtain ⟨b, o, spot⟩ := a
    have hspot : spot = none := by
      obtain ⟨cs0, g1, g2⟩ := hx 0 (by omega)
      obtain ⟨_, hlen0, hcell0⟩ := World.cells?_some g1
      rw [hC] at hlen0 hcell0
      have hc0 := hcell0 0 hpos
      rw [List.getElem?_eq_getElem (by omega)] at hc0
      simpa [Addr.add] using World.cell?_spot hc0
    subst hspot
    have ad : ∀ j q : Nat, ((⟨b, o, none⟩ : Addr).add j).add q = ⟨b, o + j + q, none⟩ := fun j q => by
      have e0 : ∀ (o' j' : Nat), (⟨b, o', none⟩ : Addr).add j' = ⟨b, o' + j', none⟩ := fun o' j' => by
        unfold Addr.add
        by_cases h0 : j' = 0
        · subst h0; simp
        · simp [h0]
      rw [e0, e0]
    refine ⟨b, o, n', rfl, fun i f hi => ?_⟩
    have hlt : i < fs.size := (Array.getElem?_eq_some_iff.1 hi).1
    obtain ⟨ho, hc1⟩ := hone i f hi
    have g := hf i f hi
    rw [ho, hc1] at g
    have hci := hcell i hlt
    rw [ad] at hci
    have hli : i < cs'.length := by omega
    rw [List.getElem?_eq_getElem hli] at hci
    have hdt : (cs'.drop i).take 1 = [cs'[i]] := by
      rw [List.drop_eq_getElem_cons hli]
      rfl
    rw [hdt, List.getElem?_eq_getElem (by omega)] at g
    exact ⟨_, _, hci, g⟩
end
end Go.Proofs.Ytoolmmjiemkpbaa
namespace Go.Proofs.Ytoolmmjiemkpbaa
set_option linter.unusedVariables false
set_option linter.unusedSimpArgs false
set_option maxRecDepth 100000
open Go.RowKit Go.ChangeShapes Go.WideShapes Go.Deep

theorem Try.cells_leaf : Try.prog.cellsOf 82 = 121 := by kernel_rfl
theorem Try.cells_int : Try.prog.cellsOf 3 = 1 := by kernel_rfl
theorem one_at (l : List Value) (i : Nat) (h : i < l.length) : (l.drop i).take 1 = [l[i]] := by
  rw [List.drop_eq_getElem_cons h]; rfl
theorem leaf_of {H : Type} {enc : TypeId × Value → H} {w : World} {r : Reach} {b0 base : Nat} {spare : Nat → Bool} {held : Bool} {v : Value} {d : DataW H} {p : List MemPlace}
    (hv : Value.okWide Try.prog w r b0 82 v) (h : DataW.Trod enc Try.prog w base spare held 82 v d p) : ∃ L : Lf, v = .agg (lv L).toArray ∧ L.Ok := by
  obtain ⟨cs, rfl, hsz⟩ := okWide_struct Try.underlying82 hv
  rw [Try.cells_leaf] at hsz
  obtain ⟨fuel, hf⟩ := h
  obtain ⟨xs, n, _, _, hlen, hxl, hg⟩ := DataW.trod_struct Try.underlying82 hf
  obtain ⟨l⟩ := cs
  have hl : l.length = 121 := by simpa using hsz
  have hxl : xs.length = 6 := hxl
  have num : ∀ i, i < 5 → ∃ z, l[i]? = some (.int .i64 z) ∧ (Lit.int .i64 z).wf = true := fun i hi => by
    have g : DataW.trod enc Try.prog w base spare held n 3 [l[i]'(by omega)] = some (xs[i]'(by omega)) := by
      rw [← one_at l i (by omega), ← List.getElem?_eq_getElem (by omega)]
      match i, hi with
      | 0, _ => exact hg 0 _ rfl
      | 1, _ => exact hg 1 _ rfl
      | 2, _ => exact hg 2 _ rfl
      | 3, _ => exact hg 3 _ rfl
      | 4, _ => exact hg 4 _ rfl
    obtain ⟨z, e, _, q⟩ := DataW.trod_int Try.underlying3 g
    injection e with e
    exact ⟨z, by rw [List.getElem?_eq_getElem (by omega), e], q⟩
  have byt : ∀ j, j < 116 → ∃ z, l[5 + j]? = some (.int .u8 z) ∧ (Lit.int .u8 z).wf = true := fun j hj => by
    have g5 : DataW.trod enc Try.prog w base spare held n 80 ((l.drop 5).take 116) = some (xs[5]'(by omega)) := by
      rw [← List.getElem?_eq_getElem (by omega)]
      exact hg 5 _ rfl
    obtain ⟨ys, m, _, _, _, hyl, hy⟩ := DataW.trod_array Try.underlying80 g5
    have g := hy j hj
    rw [Try.cells_byte, Nat.mul_one] at g
    have e1 : ((l.drop 5).take 116).drop j = ((l.drop 5).drop j).take (116 - j) := by rw [List.drop_take]
    have e2 : (((l.drop 5).take 116).drop j).take 1 = [l[5 + j]'(by omega)] := by
      rw [e1, List.take_take, Nat.min_eq_left (by omega), List.drop_drop, one_at l (5 + j) (by omega)]
    rw [e2, List.getElem?_eq_getElem (by omega)] at g
    obtain ⟨z, e, _, q⟩ := DataW.trod_int Try.underlying5 g
    injection e with e
    exact ⟨z, by rw [List.getElem?_eq_getElem (by omega), e], q⟩
  obtain ⟨k, k1, k2⟩ := num 0 (by decide)
  obtain ⟨f, f1, f2⟩ := num 1 (by decide)
  obtain ⟨q, q1, q2⟩ := num 2 (by decide)
  obtain ⟨x, x1, x2⟩ := num 3 (by decide)
  obtain ⟨s, s1, s2⟩ := num 4 (by decide)
  obtain ⟨F, hF⟩ := choose_lt (n := 116) byt
  have gl : ∀ j, j < 116 → ((List.range 116).map F).getD j 0 = F j := fun j hj => by
    rw [List.getD_eq_getElem?_getD, List.getElem?_map, List.getElem?_range hj]; rfl
  have ln : ((List.range 116).map F).length = 116 := by rw [List.length_map, List.length_range]
  refine ⟨⟨k, f, q, x, s, (List.range 116).map F⟩, ?_, ⟨i64_of k2, i64_of f2, i64_of q2, i64_of x2, i64_of s2, ln, fun j hj => ?_⟩⟩
  · congr 1
    apply congrArg List.toArray
    apply List.ext_getElem?
    intro i
    by_cases hi : i < 5
    · match i, hi with
      | 0, _ => exact k1
      | 1, _ => exact f1
      | 2, _ => exact q1
      | 3, _ => exact x1
      | 4, _ => exact s1
    · obtain ⟨j, rfl⟩ : ∃ j, i = 5 + j := ⟨i - 5, by omega⟩
      by_cases hj : j < 116
      · rw [(hF j hj).1]
        have e : (lv ⟨k, f, q, x, s, (List.range 116).map F⟩)[5 + j]? = (vals ((List.range 116).map F))[j]? := by rw [Nat.add_comm]; rfl
        rw [e, vals_at _ j (by rw [ln]; exact hj), gl j hj]
      · rw [List.getElem?_eq_none (by omega)]
        have e : (lv ⟨k, f, q, x, s, (List.range 116).map F⟩)[5 + j]? = (vals ((List.range 116).map F))[j]? := by rw [Nat.add_comm]; rfl
        rw [e, List.getElem?_eq_none (by rw [vals_length, ln]; omega)]
  · have hj : j < ((List.range 116).map F).length := hj
    rw [ln] at hj
    show U8 (((List.range 116).map F).getD j 0)
    rw [gl j hj]
    exact u8_of (hF j hj).2
end Go.Proofs.Ytoolmmjiemkpbaa
namespace Go.Proofs.Ytoolmmjiemkpbaa
set_option linter.unusedVariables false
set_option linter.unusedSimpArgs false
set_option maxRecDepth 100000
open Go.RowKit Go.ChangeShapes Go.WideShapes Go.Deep

theorem Try.cells_catalog : Try.prog.cellsOf 27 = 9 := by kernel_rfl
theorem Try.cells_card : Try.prog.cellsOf 24 = 4 := by kernel_rfl
section
variable {H : Type} {enc : TypeId × Value → H} {w : World} {base : Nat} {spare : Nat → Bool} {held : Bool}
/-- A list of files that came in. -/
theorem files_of {fuel : Nat} {A : Option Addr} {len cap : Nat} {x : DataW H × List MemPlace} (h : DataW.trod enc Try.prog w base spare held fuel 25 [.slice A len cap] = some x) :
    ∃ l : List Fl, FlR w w.heap.size A l ∧ l.length = len ∧ len ≤ cap ∧ cap ≤ maxLen ∧ (A = none → len = 0 ∧ cap = 0) := by
  obtain ⟨h1, h2, h3, h4⟩ := open_slice_fields Try.underlying25 Try.underlying33 (hone_of (by kernel_rfl)) (by kernel_rfl) (by decide) h
  have key : ∀ k, k < len → ∃ d : Fl, ∃ b o, A = some ⟨b, o, none⟩ ∧ b < w.heap.size ∧ w.cell? ⟨b, o + k * 4, none⟩ = some (.int .i64 d.name) ∧ w.cell? ⟨b, o + k * 4 + 1, none⟩ = some (.int .i64 d.file) ∧ w.cell? ⟨b, o + k * 4 + 2, none⟩ = some (.int .i64 d.first) ∧ w.cell? ⟨b, o + k * 4 + 3, none⟩ = some (.int .i64 d.blocks) ∧ d.Ok := fun k hk => by
    obtain ⟨b, o, n, e1, hf⟩ := h4 k hk
    obtain ⟨v0, y0, c0, t0⟩ := hf 0 _ rfl
    obtain ⟨v1, y1, c1, t1⟩ := hf 1 _ rfl
    obtain ⟨v2, y2, c2, t2⟩ := hf 2 _ rfl
    obtain ⟨v3, y3, c3, t3⟩ := hf 3 _ rfl
    obtain ⟨z0, g0, _, q0⟩ := DataW.trod_int Try.underlying3 t0
    obtain ⟨z1, g1, _, q1⟩ := DataW.trod_int Try.underlying3 t1
    obtain ⟨z2, g2, _, q2⟩ := DataW.trod_int Try.underlying3 t2
    obtain ⟨z3, g3, _, q3⟩ := DataW.trod_int Try.underlying3 t3
    injection g0 with g0; injection g1 with g1; injection g2 with g2; injection g3 with g3
    subst g0 g1 g2 g3
    exact ⟨⟨z0, z1, z2, z3⟩, b, o, e1, World.block_lt_of_cell? _ _ c0, c0, c1, c2, c3, ⟨i64_of q0, i64_of q1, i64_of q2, i64_of q3⟩⟩
  haveI : Inhabited Fl := ⟨Fl.zero⟩
  obtain ⟨f, hf⟩ := choose_lt (n := len) key
  have ln : ((List.range len).map f).length = len := by rw [List.length_map, List.length_range]
  refine ⟨(List.range len).map f, fun i hi => ?_, ln, h1, h2, h3⟩
  rw [ln] at hi
  rw [flAt_map len f i hi]
  obtain ⟨b, o, e⟩ := hf i hi
  exact ⟨b, o, e⟩
/-- A catalog that came in. -/
theorem ct_of {r : Reach} {b0 : Nat} {v : Value} {d : DataW H} {p : List MemPlace}
    (hv : Value.okWide Try.prog w r b0 27 v) (h : DataW.Trod enc Try.prog w base spare held 27 v d p) :
    ∃ (c : Ct) (A : Option Addr) (n cap : Nat), v = .agg (ctv c A n cap).toArray ∧ c.Ok ∧ FlR w w.heap.size A c.files ∧ c.files.length = n ∧ n ≤ cap ∧ cap ≤ maxLen ∧ (A = none → n = 0 ∧ cap = 0) := by
  obtain ⟨cs, rfl, hsz⟩ := okWide_struct Try.underlying27 hv
  rw [Try.cells_catalog] at hsz
  obtain ⟨fuel, hf⟩ := h
  obtain ⟨xs, n, _, _, hlen, hxl, hg⟩ := DataW.trod_struct Try.underlying27 hf
  obtain ⟨l⟩ := cs
  have hl : l.length = 9 := by simpa using hsz
  have hxl : xs.length = 6 := hxl
  match l, hl with
  | [l0, l1, l2, l3, l4, l5, l6, l7, l8], _ =>
    match xs, hxl with
    | [x0, x1, x2, x3, x4, x5], _ =>
      have g0 : DataW.trod enc Try.prog w base spare held n 3 [l0] = some x0 := hg 0 _ rfl
      have g1 : DataW.trod enc Try.prog w base spare held n 3 [l1] = some x1 := hg 1 _ rfl
      have g2 : DataW.trod enc Try.prog w base spare held n 22 [l2] = some x2 := hg 2 _ rfl
      have g3 : DataW.trod enc Try.prog w base spare held n 4 [l3] = some x3 := hg 3 _ rfl
      have g4 : DataW.trod enc Try.prog w base spare held n 24 [l4, l5, l6, l7] = some x4 := hg 4 _ rfl
      have g5 : DataW.trod enc Try.prog w base spare held n 25 [l8] = some x5 := hg 5 _ rfl
      obtain ⟨z0, e0, _, q0⟩ := DataW.trod_int Try.underlying3 g0
      obtain ⟨z1, e1, _, q1⟩ := DataW.trod_int Try.underlying3 g1
      obtain ⟨z2, e2, _, q2⟩ := DataW.trod_int Try.underlying22 g2
      obtain ⟨z3, e3, _⟩ := DataW.trod_bool Try.underlying4 g3
      obtain ⟨ys, m, _, _, _, hyl, hy⟩ := DataW.trod_struct Try.underlying24 g4
      have hyl : ys.length = 4 := hyl
      match ys, hyl with
      | [y0, y1, y2, y3], _ =>
        have k0 : DataW.trod enc Try.prog w base spare held m 3 [l4] = some y0 := hy 0 _ rfl
        have k1 : DataW.trod enc Try.prog w base spare held m 3 [l5] = some y1 := hy 1 _ rfl
        have k2 : DataW.trod enc Try.prog w base spare held m 3 [l6] = some y2 := hy 2 _ rfl
        have k3 : DataW.trod enc Try.prog w base spare held m 3 [l7] = some y3 := hy 3 _ rfl
        obtain ⟨z4, e4, _, q4⟩ := DataW.trod_int Try.underlying3 k0
        obtain ⟨z5, e5, _, q5⟩ := DataW.trod_int Try.underlying3 k1
        obtain ⟨z6, e6, _, q6⟩ := DataW.trod_int Try.underlying3 k2
        obtain ⟨z7, e7, _, q7⟩ := DataW.trod_int Try.underlying3 k3
        injection e0 with e0; injection e1 with e1; injection e2 with e2; injection e3 with e3; injection e4 with e4; injection e5 with e5; injection e6 with e6; injection e7 with e7
        subst e0 e1 e2 e3 e4 e5 e6 e7
        have sl : ∃ A len cap, l8 = .slice A len cap := by
          rcases open_slice Try.underlying25 g5 with ⟨h0, _⟩ | ⟨a, len', cap', _, _, _, _, h0, _⟩
          · injection h0 with h0 _; exact ⟨none, 0, 0, h0⟩
          · injection h0 with h0 _; exact ⟨some a, len', cap', h0⟩
        obtain ⟨A, len, cap, rfl⟩ := sl
        obtain ⟨fs, r1, r2, r3, r4, r5⟩ := files_of g5
        exact ⟨⟨z0, z1, z2, z3, ⟨z4, z5, z6, z7⟩, fs⟩, A, len, cap, rfl, ⟨i64_of q0, i64_of q1, i64_of q2, ⟨i64_of q4, i64_of q5, i64_of q6, i64_of q7⟩⟩, r1, r2, r3, r4, r5⟩
end
end Go.Proofs.Ytoolmmjiemkpbaa
namespace Go.Proofs.Ytoolmmjiemkpbaa
set_option linter.unusedVariables false
set_option linter.unusedSimpArgs false
set_option maxRecDepth 100000
open Go.RowKit Go.ChangeShapes Go.WideShapes Go.Deep

/-- A catalog as an argument: its files lie in memory that was there. -/
structure CtIn (w : World) (c : Ct) (A : Option Addr) (n cap : Nat) : Prop where
  ok : c.Ok
  fl : FlR w w.heap.size A c.files
  ln : c.files.length = n
  le : n ≤ cap
  mx : cap ≤ maxLen
  nil : A = none → n = 0 ∧ cap = 0
theorem FlR.take {w : World} {N : Nat} {A : Option Addr} {l : List Fl} (h : FlR w N A l) (k : Nat) : FlR w N A (l.take k) := fun i hi => by
  rw [List.length_take] at hi
  have e : flAt (l.take k) i = flAt l i := by
    unfold flAt
    rw [List.getD_eq_getElem?_getD, List.getElem?_take, if_pos (by omega), List.getD_eq_getElem?_getD]
  rw [e]
  exact h i (by omega)
theorem CtIn.take {w : World} {c : Ct} {A : Option Addr} {n cap : Nat} (h : CtIn w c A n cap) {k : Nat} (hk : k ≤ n) : CtIn w { c with files := c.files.take k } A k cap :=
  ⟨⟨h.ok.g, h.ok.s, h.ok.t, h.ok.k⟩, h.fl.take k, by show (c.files.take k).length = k; rw [List.length_take, h.ln]; omega, by have := h.le; omega, h.mx, fun e => by have := h.nil e; omega⟩
theorem ct_in {H : Type} {enc : TypeId × Value → H} {w : World} {base : Nat} {spare : Nat → Bool} {held : Bool} {r : Reach} {b0 : Nat} {v : Value} {d : DataW H} {p : List MemPlace}
    (hv : Value.okWide Try.prog w r b0 27 v) (h : DataW.Trod enc Try.prog w base spare held 27 v d p) :
    ∃ (c : Ct) (A : Option Addr) (n cap : Nat), v = .agg (ctv c A n cap).toArray ∧ CtIn w c A n cap := by
  obtain ⟨c, A, n, cap, h1, h2, h3, h4, h5, h6, h7⟩ := ct_of hv h
  exact ⟨c, A, n, cap, h1, h2, h3, h4, h5, h6, h7⟩
end Go.Proofs.Ytoolmmjiemkpbaa
namespace Go.Proofs.Ytoolmmjiemkpbaa
set_option linter.unusedVariables false
set_option linter.unusedSimpArgs false

theorem mask_of (r : Nat) (h : r < 8) : ∃ mm : Int, (2 : Int) ^ r % 256 = mm ∧ U8 mm ∧ byteW mm = 1#32 <<< r := by
  match r, h with
  | 0, _ => exact ⟨1, by decide, ⟨by decide, by decide⟩, by decide⟩
  | 1, _ => exact ⟨2, by decide, ⟨by decide, by decide⟩, by decide⟩
  | 2, _ => exact ⟨4, by decide, ⟨by decide, by decide⟩, by decide⟩
  | 3, _ => exact ⟨8, by decide, ⟨by decide, by decide⟩, by decide⟩
  | 4, _ => exact ⟨16, by decide, ⟨by decide, by decide⟩, by decide⟩
  | 5, _ => exact ⟨32, by decide, ⟨by decide, by decide⟩, by decide⟩
  | 6, _ => exact ⟨64, by decide, ⟨by decide, by decide⟩, by decide⟩
  | 7, _ => exact ⟨128, by decide, ⟨by decide, by decide⟩, by decide⟩
/-- One bit more. -/
theorem turn_one (ys zs : List Int) (X : B32) (m p k : Nat) (mm : Int) (hl : ys.length = m) (hp : p + 32 ≤ 8 * m) (hk : k < 32) (hx : X.getLsbD k = true) (hf : feeds ones ys = feeds ones zs ^^^ csteps (8 * m - p) (some1 X k)) (hu : U8 (ys.getD ((p + k) / 8) 0)) (hm : U8 mm) (hb : byteW mm = 1#32 <<< ((p + k) % 8)) :
    feeds ones (ys.set ((p + k) / 8) (xorB (ys.getD ((p + k) / 8) 0) mm)) = feeds ones zs ^^^ csteps (8 * m - p) (some1 X (k + 1)) := by
  rw [feeds_set ones ys _ mm (by omega) hu hm, hf, hl, hb, bit_steps m p k hk (by omega) hp, BitVec.xor_assoc, ← csteps_xor]
  simp only [some1]
  rw [if_pos hx]
end Go.Proofs.Ytoolmmjiemkpbaa
