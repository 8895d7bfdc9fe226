/-
  The document's own number, low and RightLeaf (sheafref5): a number of bytes; its lowest bytes behind others; whether a leaf is right.
-/
import Derived.Test.YtjiigbmfbmkhjaaLT
import Derived.Test.YtjiigbmfbmkhjaaWApp
import Derived.Lib.MinMax
import Derived.IntWalk
import Derived.WalkSmall
namespace Go.Proofs.Ytjiigbmfbmkhjaa
set_option linter.unusedVariables false
set_option linter.unusedSimpArgs false
open Go.RowKit

theorem or_byte (n x : Int) (x0 : 0 ≤ x) (x1 : x ≤ 255) (n0 : 0 ≤ n) (n1 : n ≤ 36028797018963967) : bits .or .i64 (n * 256) x = n * 256 + x := by
  obtain ⟨k, rfl⟩ : ∃ k : Nat, n = k := ⟨n.toNat, by omega⟩
  obtain ⟨y, rfl⟩ : ∃ y : Nat, x = y := ⟨x.toNat, by omega⟩
  have f : ∀ a b : Int, bits .or .i64 a b = IntKind.i64.wrap ((BitVec.ofInt 64 a ||| BitVec.ofInt 64 b).toNat : Nat) := fun _ _ => rfl
  have t1 : (BitVec.ofInt 64 ((k : Int) * 256)).toNat = k <<< 8 := by
    rw [BitVec.toNat_ofInt, Nat.shiftLeft_eq]
    omega
  have t2 : (BitVec.ofInt 64 (y : Int)).toNat = y := by
    rw [BitVec.toNat_ofInt]
    omega
  have e := Nat.shiftLeft_add_eq_or_of_lt (b := y) (i := 8) (by omega) k
  have e2 : k <<< 8 = k * 256 := by rw [Nat.shiftLeft_eq]
  rw [f, BitVec.toNat_or, t1, t2, ← e, e2, IntKind.wrap_i64]
  omega
/-- A number of bytes, the lowest first. -/
def numL : List Int → Int
  | [] => 0
  | x :: r => numL r * 256 + x
theorem numL_bd : ∀ (xs : List Int) (n : Nat), xs.length ≤ n → (∀ k, k < xs.length → U8 (xs.getD k 0)) → 0 ≤ numL xs ∧ numL xs < 256 ^ n
  | [], n, _, _ => by
    refine ⟨Int.le_refl _, ?_⟩
    show (0 : Int) < 256 ^ n
    exact Int.pow_pos (by decide)
  | x :: r, n, hl, hu => by
    obtain ⟨m, rfl⟩ : ∃ m, n = m + 1 := ⟨n - 1, by simp at hl; omega⟩
    have ih := numL_bd r m (by simp at hl; omega) (fun k hk => by have := hu (k + 1) (by simp; omega); simpa using this)
    have h0 : U8 x := by have := hu 0 (by simp); simpa using this
    unfold U8 at h0
    show 0 ≤ numL r * 256 + x ∧ numL r * 256 + x < 256 ^ (m + 1)
    rw [Int.pow_succ]
    omega
theorem numL_drop (xs : List Int) (k : Nat) (hk : k < xs.length) : numL (xs.drop k) = numL (xs.drop (k + 1)) * 256 + xs.getD k 0 := by
  rw [List.drop_eq_getElem_cons hk, List.getD_eq_getElem?_getD, List.getElem?_eq_getElem hk]
  rfl
set_option maxHeartbeats 400000 in
theorem number_any (N : Nat) (A : Option Addr) (n cap : Nat) (xs : List Int) (hl : xs.length = n) (hm : n ≤ 4) (w : World) (hr : RdB w N A xs) :
    Calls Try.prog 34 #[.slice A n cap] w fun e w' => e = .returned (.int .i64 (numL xs)) ∧ w = w' := by
  have HU : Hid (∀ k, k < xs.length → U8 (xs.getD k 0)) := Lib.hid (fun k hk => by obtain ⟨_, _, _, _, _, hu⟩ := hr k hk; exact hu)
  have HR := Lib.hid hr; have HL := Lib.hid hl
  clear hr hl
  go_enter Try.func34, Try.ntmps34
  go_wp2
  go_loop [3, 4] (fun c i => ∃ k : Nat, k ≤ n ∧ i = .int .i64 ((k : Int) - 1) ∧ c = .int .i64 (numL (xs.drop k))) (fun _ i => ((intOf i) + 1).toNat)
  case atStart => exact ⟨n, Nat.le_refl _, rfl, by rw [List.drop_eq_nil_of_le (by rw [HL.out]; exact Nat.le_refl _)]; rfl⟩
  case round =>
    obtain ⟨k, hk, rfl, rfl⟩ := hrel
    by_cases h0 : 0 < k
    · obtain ⟨j, rfl⟩ : ∃ j, k = j + 1 := ⟨k - 1, by omega⟩
      have e0 : (((j + 1 : Nat) : Int) - 1) = (j : Int) := by omega
      rw [e0]
      obtain ⟨bb, oo, rfl, hb, hc, hu⟩ := HR.out j (by rw [HL.out]; omega)
      obtain ⟨u0, u1⟩ := id hu
      have bd := numL_bd (xs.drop (j + 1)) 4 (by rw [List.length_drop, HL.out]; omega) (fun q hq => by
        rw [List.length_drop] at hq
        rw [List.getD_eq_getElem?_getD, List.getElem?_drop, ← List.getD_eq_getElem?_getD]
        exact HU.out _ (by omega))
      have nx := Lib.hid (numL_drop xs j (by rw [HL.out]; omega))
      obtain ⟨d0, d1⟩ := bd
      have d1 : numL (xs.drop (j + 1)) < 4294967296 := d1
      clear e0 hu
      generalize numL (xs.drop (j + 1)) = M at *
      generalize xs.getD j 0 = x at *
      have ob := or_byte M x u0 u1 d0 (by omega)
      have i0 : (j : Int) < (n : Int) := by omega
      obtain ⟨R, hR⟩ : ∃ R, R = M * 256 + x := ⟨_, rfl⟩
      have ER := Lib.hid hR
      rw [← hR] at ob
      clear hR
      go_wp2
      go_round
      case rel => exact ⟨j, by omega, rfl, by rw [nx.out, ER.out]⟩
      case measure => simp [intOf]
    · obtain rfl : k = 0 := by omega
      go_wp2
      go_ret
      exact ⟨rfl, rfl⟩
/-- So many of a number's bytes, the lowest first. -/
def lowL (n : Int) (k : Nat) : List Int := (List.range k).map (fun i => n / 2 ^ (8 * i) % 256)
theorem lowL_len (n : Int) (k : Nat) : (lowL n k).length = k := by unfold lowL; simp
theorem lowL_succ (n : Int) (k : Nat) : lowL n (k + 1) = lowL n k ++ [n / 2 ^ (8 * k) % 256] := by unfold lowL; rw [List.range_succ, List.map_append]; rfl
theorem lowL_two (n : Int) : lowL n 2 = le2 n := by
  show [n / 2 ^ (8 * 0) % 256, n / 2 ^ (8 * 1) % 256] = _
  unfold le2
  have e0 : n / 2 ^ (8 * 0) = n := by simp
  have e1 : (2 : Int) ^ (8 * 1) = 256 := by decide
  rw [e0, e1]
theorem lowL_four (X : B32) : lowL (wrd X) 4 = le4 X := by
  show [wrd X / 2 ^ (8 * 0) % 256, wrd X / 2 ^ (8 * 1) % 256, wrd X / 2 ^ (8 * 2) % 256, wrd X / 2 ^ (8 * 3) % 256] = _
  rw [byteOf_wrd X 0 (8 * 0) rfl, byteOf_wrd X 1 (8 * 1) rfl, byteOf_wrd X 2 (8 * 2) rfl, byteOf_wrd X 3 (8 * 3) rfl]
  rfl
/-- What low leaves. -/
def LowL (base k m : Nat) (ys : List Int) (w : World) (e : Ending) (w' : World) : Prop :=
  ∃ g c, e = .returned (.slice (some ⟨g, 0, none⟩) (k + m) c) ∧ Own w' base g c ys ∧ Below base w w'
set_option maxHeartbeats 400000 in
theorem low_any (base g cap k m : Nat) (n : Int) (xs : List Int) (w : World) (ho : Own w base g cap xs) (hk : xs.length = k) (hk1 : k ≤ 1000) (hm : m ≤ 4) (h0 : 0 ≤ n) (h1 : n ≤ 4294967295) (hb : base ≤ w.heap.size) :
    Calls Try.prog 37 #[.slice (some ⟨g, 0, none⟩) k cap, .int .i64 n, .int .i64 m] w (LowL base k m (xs ++ lowL n m) w) := by
  have HO := Lib.hid ho; have HK := Lib.hid hk
  clear ho hk
  go_enter Try.func37, Try.ntmps37
  go_wp2
  go_loopw [0, 7, 9] (fun bv _ iv wr => ∃ j : Nat, j ≤ m ∧ iv = .int .i64 (j : Int) ∧ ∃ g' c', bv = .slice (some ⟨g', 0, none⟩) (k + j) c' ∧ Own wr base g' c' (xs ++ lowL n j) ∧ Below base w wr) (fun _ _ iv _ => m - (intOf iv).toNat)
  case atStart => exact ⟨0, Nat.zero_le _, rfl, g, cap, rfl, by rw [show lowL n 0 = [] from rfl, List.append_nil]; exact HO.out, Below.refl _ _⟩
  case round =>
    obtain ⟨j, hj, rfl, g', c', rfl, ho, bel⟩ := hrel
    have HO' := Lib.hid ho
    have BL := Lib.hid bel
    clear ho bel
    by_cases hlt : j < m
    · have i1 : decide ((j : Int) < (m : Int)) = true := by rw [decide_eq_true_eq]; omega
      have LX : Hid ((xs ++ lowL n j).length = k + j) := Lib.hid (by rw [List.length_append, lowL_len, HK.out])
      have NX : Hid ((xs ++ lowL n j) ++ [n / 2 ^ (8 * j) % 256] = xs ++ lowL n (j + 1)) := Lib.hid (by rw [lowL_succ, List.append_assoc])
      generalize xs ++ lowL n j = zs at *
      obtain ⟨x, hx⟩ : ∃ x, n / 2 ^ (8 * j) % 256 = x := ⟨_, rfl⟩
      have ux : U8 x := by unfold U8; omega
      have UX : Hid (∀ q, q < ([x] : List Int).length → U8 (([x] : List Int).getD q 0)) := Lib.hid (fun q hq => by
        obtain rfl : q = 0 := by simp at hq; omega
        exact ux)
      rw [hx] at NX
      go_wp2_with (at_builtin; go_loud (refine app_rd _ rfl _ _ rfl base g' c' (k + j) zs LX.out rfl (HO'.out.alloc _) (wr.heap.size + 1) (some ⟨wr.heap.size, 0, none⟩) 1 1 [x] rfl rfl ?c1 (fun h => by cases h) ?c2 ?c3 ?_))
      case c1 => exact RdB.lit wr #[.int .u8 x] 5 _ [x] rfl UX.out
      case c2 => omega
      case c3 => have := BL.out.size; simp; omega
      intro g2 c2 w2 o2 hgr
      have O2 : Hid (Own w2 base g2 c2 (xs ++ lowL n (j + 1))) := Lib.hid (by rw [← NX.out]; exact o2)
      have gl := HO'.out.lt.1
      have B2 : Hid (Below base w w2) := Lib.hid (Below.grown (BL.out.alloc (by have := BL.out.size; omega) _) hgr (by have := BL.out.size; simp; omega) (fun q hq => by injection hq with hq; omega))
      clear o2 hgr hx
      go_wp2
      go_roundw
      case rel => exact ⟨j + 1, by omega, by go_num, g2, c2, rfl, O2.out, B2.out⟩
      case measure => simp [intOf]; omega
    · obtain rfl : j = m := by omega
      have i1 : decide ((j : Int) < (j : Int)) = false := by simp
      go_wp2
      go_ret
      exact ⟨g', c', rfl, HO'.out, BL.out⟩
end Go.Proofs.Ytjiigbmfbmkhjaa
