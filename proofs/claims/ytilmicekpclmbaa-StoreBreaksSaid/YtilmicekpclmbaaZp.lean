/-
  copy of bytes that are read somewhere onto the beginning of bytes of the call's own.
  The contracts of package burst: Sum returns the sum of the bytes; Close returns new memory that holds the bytes and their sum's four bytes behind them; Good says whether bytes are closed; nothing that was in memory turns.
  The contracts of package leaf's putTwo and Put: Put of a right leaf is its block, in new memory; of another one none.
-/
import Derived.Test.YtilmicekpclmbaaZb
import Derived.Laws.CopyOwn
import Derived.LoopN
import Derived.WalkSpells
import Derived.WalkLawsBesides
import Derived.Deep.QuietTactic
import Derived.BigQuiet
import Derived.Test.YtilmicekpclmbaaZo
import Derived.Deep.RegionLaw
import Derived.Deep.RegionWith
namespace Go.Proofs.Ytilmicekpclmbaa
set_option linter.unusedVariables false
set_option linter.unusedSimpArgs false
set_option maxRecDepth 100000
open Go.RowKit

theorem RdB.some_of {w : World} {B : Nat} {A : Option Addr} {xs : List Int} (h : RdB w B A xs) (hp : 0 < xs.length) : ∃ ad, A = some ad ∧ ∀ (j : Nat) (v : Value), (vals xs)[j]? = some v → w.cell? (ad.add j) = some v := by
  obtain ⟨b, o, rfl, _, _, _⟩ := h 0 hp
  exact ⟨_, rfl, h.news⟩
theorem copy_rd {w : World} {ops : Array Oper} {rs : List Oper} {o : Oper} {a : Act} {Q : Exit → Act → World → Prop} (hgd : o.guard = none)
    (d s : Operand) (ho : o.op = .call { callee := .builtin .copy, args := #[d, s], argTypes := #[30, 30] })
    (base g cap n : Nat) (ys : List Int) (hn : ys.length = n) (hd : a.eval d = .slice (some ⟨g, 0, none⟩) n cap) (hown : Own w base g cap ys)
    (B : Nat) (A : Option Addr) (m c : Nat) (xs : List Int) (hm : xs.length = m) (hs : a.eval s = .slice A m c) (hr : RdB w B A xs) (hmn : m ≤ n)
    (w0 : World) (hb : Below w0.heap.size w0 w) (hg : w0.heap.size ≤ g)
    (h : ∀ w', Own w' base g cap (xs ++ ys.drop m) → Below w0.heap.size w0 w' → wpList Try.prog ops Q rs (a.put o.dst (goInt (m : Int))) w') :
    wpList Try.prog ops Q (o :: rs) a w := by
  obtain ⟨i0, hi, hz0, hz1, hz2⟩ := info_parts Try.info_byte
  rcases hown.1.2 with ⟨e, _⟩ | ⟨g', cap', cur, e, hbase, hheap, hle, hcap, hsz, htake⟩
  · cases e
  injection e with e1 e2 e3
  injection e1 with e1
  injection e1 with e1
  subst e1 e3
  rw [Nat.mul_one] at hsz htake
  have hcl : cur.toList.length = cap := by simpa using hsz
  refine wpList_copy_splice hgd d s 30 30 ho 5 Try.underlying30 (by rw [hi]; simp [hz1]) (some ⟨g, 0, none⟩) A n cap m c hd hs g 0 cur.toList 5 (by simpa using hheap) (vals xs) (by rw [vals_length, hm]; exact (Nat.min_eq_left hmn).symm) (fun hp => ⟨rfl, hr.some_of (by rw [vals_length] at hp; exact hp)⟩) (by rw [vals_length, hm]; omega) (vals_one xs) w0.heap.size w0 hb hg ?_
  intro w' H b
  rw [vals_length, hm]
  refine h w' ⟨?_, fun k hk => ?_⟩ b
  · have hlen : (xs ++ ys.drop m).length = n := by rw [List.length_append, List.length_drop]; omega
    have hv : vals (xs ++ ys.drop m) = (splice cur.toList 0 (vals xs)).take n := by
      unfold splice
      rw [List.take_zero, List.nil_append, Nat.zero_add, vals_length, hm, List.take_append, vals_length, hm, List.take_of_length_le (by rw [vals_length]; omega), ← vals_append]
      congr 1
      have : vals (ys.drop m) = (vals ys).drop m := by unfold vals; rw [List.map_drop]
      rw [this, ← htake, List.drop_take, hn]
    have hsl : (splice cur.toList 0 (vals xs)).length = cap := by
      unfold splice
      rw [List.take_zero, List.nil_append, Nat.zero_add, List.length_append, List.length_drop, vals_length, hcl]
      omega
    refine ⟨by rw [vals_length, Nat.mul_one], Or.inr ⟨g, cap, (splice cur.toList 0 (vals xs)).toArray, rfl, hbase, H.out, by rw [hlen]; omega, hcap, by simp [hsl], ?_⟩⟩
    rw [hlen, Nat.mul_one, hv]
  · rw [getD_append]
    split
    · obtain ⟨_, _, _, _, _, hu⟩ := hr k (by assumption)
      exact hu
    · rw [List.length_append, List.length_drop] at hk
      have := hown.2 (m + (k - xs.length)) (by omega)
      rw [List.getD_eq_getElem?_getD, List.getElem?_drop, ← List.getD_eq_getElem?_getD]
      exact this
end Go.Proofs.Ytilmicekpclmbaa
namespace Go.Proofs.Ytilmicekpclmbaa
set_option linter.unusedVariables false
set_option linter.unusedSimpArgs false
open Go.RowKit

set_option maxHeartbeats 400000 in
theorem divide_any (E : B32) (w : World) :
    Calls Try.prog 81 #[.int .u32 (wrd E)] w fun e w' => e = .returned (.int .u32 (wrd (csteps 8 E))) ∧ w = w' := by
  obtain ⟨g0, g1⟩ := u32_bd E
  go_enter Try.func81, Try.ntmps81
  go_wp2
  go_loop [0, 3, 4] (fun c _ i => ∃ j : Nat, j ≤ 8 ∧ i = .int .i64 j ∧ c = .int .u32 (wrd (csteps j E))) (fun _ _ i => 8 - (intOf i).toNat)
  case atStart => exact ⟨0, Nat.zero_le _, rfl, rfl⟩
  case round =>
    obtain ⟨j, hj, rfl, rfl⟩ := hrel
    by_cases hj8 : j < 8
    · have hs := csteps_succ j E
      have HS := Lib.hid hs
      clear hs
      generalize csteps j E = F at *
      obtain ⟨f0, f1⟩ := u32_bd F
      by_cases hbit : bits .and .u32 (wrd F) 1 = 1
      · have hq := cstep_one hbit
        have b1 : (bits .and .u32 (wrd F) 1 == 1) = true := by simpa using hbit
        obtain ⟨q0, q1⟩ := u32_bd (cstep F)
        go_wp2
        go_round
        case rel => exact ⟨j + 1, by omega, by go_num, by rw [HS.out]⟩
        case measure => simp [intOf]; omega
      · have hq := cstep_nil hbit
        have b1 : (bits .and .u32 (wrd F) 1 == 1) = false := by simpa using hbit
        obtain ⟨q0, q1⟩ := u32_bd (cstep F)
        go_wp2
        go_round
        case rel => exact ⟨j + 1, by omega, by go_num, by rw [HS.out]⟩
        case measure => simp [intOf]; omega
    · obtain rfl : j = 8 := by omega
      go_wp2
      go_ret
      exact ⟨rfl, rfl⟩

set_option maxHeartbeats 400000 in
theorem bsum_any (B : Nat) (A : Option Addr) (cap : Nat) (xs : List Int) (hl : xs.length ≤ maxLen) (w : World) (hr : RdB w B A xs) :
    Calls Try.prog 76 #[.slice A xs.length cap] w fun e w' => e = .returned (.int .u32 (wrd (crc xs))) ∧ w = w' := by
  unfold maxLen at hl
  obtain ⟨R, hR⟩ : ∃ R, crc xs = R := ⟨_, rfl⟩
  rw [hR]
  have HC := Lib.hid hR
  clear hR
  have HR := Lib.hid hr
  clear hr
  go_enter Try.func76, Try.ntmps76
  go_wp2
  go_loop [3, 5, 8] (fun c _ i => ∃ k : Nat, k ≤ xs.length ∧ i = .int .i64 k ∧ c = .int .u32 (wrd (feeds ones (xs.take k)))) (fun _ _ i => xs.length - (intOf i).toNat)
  case atStart => exact ⟨0, Nat.zero_le _, rfl, by rw [List.take_zero, feeds_nil]; rfl⟩
  case round =>
    obtain ⟨k, hk, rfl, rfl⟩ := hrel
    by_cases hlt : k < xs.length
    · obtain ⟨bb, oo, rfl, hb, hc, hu⟩ := HR.out k hlt
      have hf : feeds ones (xs.take (k + 1)) = csteps 8 (feeds ones (xs.take k) ^^^ byteW (xs.getD k 0)) := by
        rw [List.take_succ_eq_append_getElem hlt, feeds_snoc, List.getD_eq_getElem?_getD, List.getElem?_eq_getElem hlt]; rfl
      have e1 : bits .xor .u32 (wrd (feeds ones (xs.take k))) (xs.getD k 0) = wrd (feeds ones (xs.take k) ^^^ byteW (xs.getD k 0)) := by
        rw [← xor_u32, ← byte_u32 hu]
      have HF := Lib.hid hf
      clear hf
      obtain ⟨u0, u1⟩ := id hu
      generalize feeds ones (xs.take k) ^^^ byteW (xs.getD k 0) = E at *
      generalize feeds ones (xs.take k) = D at *
      generalize xs.getD k 0 = x at *
      obtain ⟨d0, d1⟩ := u32_bd D
      obtain ⟨g0, g1⟩ := u32_bd E
      go_wp2_with fail
      refine (divide_any E w).mono ?_
      rintro e w1 ⟨rfl, rfl⟩
      obtain ⟨q0, q1⟩ := u32_bd (csteps 8 E)
      go_wp2
      go_round
      case rel => exact ⟨k + 1, by omega, by go_num, by rw [HF.out]⟩
      case measure => simp [intOf]; omega
    · obtain rfl : k = xs.length := by omega
      rw [List.take_length]
      have e2 := not_u32' (feeds ones xs)
      rw [show ones ^^^ feeds ones xs = R from HC.out] at e2
      clear HC
      generalize feeds ones xs = D at *
      obtain ⟨d0, d1⟩ := u32_bd D
      go_wp2
      go_ret
      exact ⟨rfl, rfl⟩
theorem sum_any (N : Nat) (A : Option Addr) (n cap : Nat) (xs : List Int) (hl : xs.length = n) (hm : n ≤ maxLen) (w : World) (hr : RdB w N A xs) (hN : N ≤ w.heap.size) :
    Calls Try.prog 76 #[.slice A n cap] w fun e w' => e = .returned (.int .u32 (wrd (crc xs))) ∧ Below w.heap.size w w' := by
  subst hl
  refine (bsum_any N A cap xs hm w hr).mono ?_
  rintro e w' ⟨rfl, rfl⟩
  exact ⟨rfl, Below.refl _ _⟩

theorem sumByte_any (X : B32) (i : Nat) (hi : i < 4) (w : World) :
    Calls Try.prog 77 #[.int .u32 (wrd X), .int .i64 i] w fun e w' => e = .returned (.int .u8 (byteOf X i)) ∧ w' = w := by
  obtain ⟨g0, g1⟩ := u32_bd X
  obtain ⟨d0, d1, d2, d3, hd, ⟨⟨u0, v0⟩, ⟨u1, v1⟩, ⟨u2, v2⟩, u3, v3⟩, r0, r1, r2, r3⟩ := bytes_of X
  unfold le4 at hd
  injection hd with h0 hd
  injection hd with h1 hd
  injection hd with h2 hd
  injection hd with h3 hd
  go_enter Try.func77, Try.ntmps77
  rcases i with _ | _ | _ | _ | i
  · rw [h0]
    go_wp2
    go_ret
    refine ⟨?_, rfl⟩
    rfl
  · rw [h1]
    go_wp2
    go_ret
    refine ⟨?_, rfl⟩
    rfl
  · rw [h2]
    go_wp2
    go_ret
    refine ⟨?_, rfl⟩
    rfl
  · rw [h3]
    go_wp2
    go_ret
    refine ⟨?_, rfl⟩
    rfl
  · omega

/-- What Close leaves. -/
def Closed (w : World) (n : Nat) (xs : List Int) (e : Ending) (w' : World) : Prop :=
  ∃ g c, e = .returned (.slice (some ⟨g, 0, none⟩) (n + 4) c) ∧ Own w' w.heap.size g c (xs ++ le4 (crc xs)) ∧ Below w.heap.size w w'
/-- What is behind so many bytes of the sum. -/
def CloseI (w : World) (g n : Nat) (xs : List Int) (D : B32) (j : Nat) (wr : World) : Prop :=
  ∃ us, Own wr w.heap.size g (n + 4) us ∧ us.length = n + 4 ∧ us.take (n + j) = xs ++ (le4 D).take j ∧ Below w.heap.size w wr
theorem le4_next (D : B32) (j : Nat) (hj : j < 4) : (le4 D).take (j + 1) = (le4 D).take j ++ [byteOf D j] := by
  rcases j with _ | _ | _ | _ | j
  · rfl
  · rfl
  · rfl
  · rfl
  · omega
set_option maxHeartbeats 400000 in
theorem close_any (N : Nat) (A : Option Addr) (n cap : Nat) (xs : List Int) (hl : xs.length = n) (hm : n ≤ 1000) (w : World) (hr : RdB w N A xs) (hN : N ≤ w.heap.size) (hA : A = none → cap = 0) :
    Calls Try.prog 64 #[.slice A n cap] w (Closed w n xs) := by
  have sm := fun w0 hr hN => sum_any N A n cap xs hl (by unfold maxLen; omega) w0 hr hN
  have HL := Lib.hid hl; have HR := Lib.hid hr; have SM := Lib.hid sm; have HA := Lib.hid hA
  clear hl hr sm hA
  go_enter Try.func64, Try.ntmps64
  go_wp2_with (with_reducible refine make_own _ rfl _ _ rfl w.heap.size (n + 4) rfl rfl ?c1 ?c2 ?_)
  case c1 => omega
  case c2 => exact Nat.le_refl _
  intro w1 o1 b1
  have O1 := Lib.hid o1
  clear o1
  go_wp2_with (with_reducible refine copy_rd rfl _ _ rfl w.heap.size w.heap.size (n + 4) (n + 4) (zeros (n + 4)) ?d1 rfl O1.out N A n cap xs HL.out rfl ?d2 ?d3 w b1 ?d4 ?_)
  case d1 => exact zeros_length _
  case d2 => exact HR.out.below (b1.mono (by exact hN))
  case d3 => omega
  case d4 => exact Nat.le_refl _
  intro w2 o2 b2
  have l2 : (xs ++ (zeros (n + 4)).drop n).length = n + 4 := by rw [List.length_append, List.length_drop, zeros_length, HL.out]; omega
  have t2 : (xs ++ (zeros (n + 4)).drop n).take n = xs := by rw [List.take_append_of_le_length (by rw [HL.out]; exact Nat.le_refl _), List.take_of_length_le (by rw [HL.out]; exact Nat.le_refl _)]
  generalize xs ++ (zeros (n + 4)).drop n = us0 at *
  obtain ⟨g, hg⟩ : ∃ g, g = w.heap.size := ⟨_, rfl⟩
  have hgw : w.heap.size ≤ g := by omega
  have HG := Lib.hid hg; have O2 := Lib.hid o2; have L2 := Lib.hid l2; have T2 := Lib.hid t2
  clear o2 l2 t2 O1 b1 hg
  go_wp2_with fail
  refine (SM.out w2 (HR.out.below (b2.mono hN)) (by have := b2.size; omega)).mono ?_
  rintro e w3 ⟨rfl, b3⟩
  have O3 := Lib.hid (O2.out.below b3)
  have b4 := b2.trans (b3.mono b2.size)
  obtain ⟨D, hD⟩ : ∃ D, D = crc xs := ⟨_, rfl⟩
  rw [← hD]
  have HD := Lib.hid hD
  obtain ⟨q0, q1⟩ := u32_bd D
  clear hD O2 b2 b3
  go_wp2
  rw [← HG.out]
  go_loopw [5, 15] (fun _ iv wr => ∃ j : Nat, j ≤ 4 ∧ iv = .int .i64 (j : Int) ∧ CloseI w g n xs D j wr) (fun _ iv _ => 4 - (intOf iv).toNat)
  case atStart => exact ⟨0, Nat.zero_le _, rfl, us0, by have := O3.out; rw [← HG.out] at this; rw [← HG.out]; exact this, L2.out, by rw [Nat.add_zero, T2.out]; simp, b4⟩
  case round =>
    obtain ⟨j, hj, rfl, us, ou, hul, htk, bel⟩ := hrel
    by_cases hlt : j < 4
    · obtain ⟨s, hs⟩ : ∃ s : Nat, s = n + j := ⟨_, rfl⟩
      have e1 : IntKind.i64.wrap ((n : Int) + (j : Int)) = (s : Int) := by rw [IntKind.wrap_i64]; omega
      have yu := ou.cell (k := s) (by omega)
      have fu := ou.frozen s
      have fin : (us.set s (byteOf D j)).take (n + (j + 1)) = xs ++ (le4 D).take (j + 1) := by
        rw [← Nat.add_assoc, ← hs, take_set_succ us s _ (by omega), hs, htk, List.append_assoc, le4_next D j hlt]
      have O5 := Lib.hid (ou.set s (byteOf D j) (byteOf_U8 D j))
      have L5 : Hid ((us.set s (byteOf D j)).length = n + 4) := Lib.hid (by rw [List.length_set]; exact hul)
      have FIN := Lib.hid fin
      have i1 : (0 : Int) ≤ (s : Int) := by omega
      have i2 : (s : Int) < (n : Int) + 4 := by omega
      have i3 : s < n + 4 := by omega
      have sb := sumByte_any D j hlt
      obtain ⟨u0, u1⟩ := byteOf_U8 D j
      have SB := Lib.hid sb; have HS := Lib.hid hs
      clear ou hul htk fin hs sb
      generalize us.getD s 0 = v at *
      generalize byteOf D j = d at *
      go_wp2_with fail
      refine (SB.out _).mono ?_
      rintro e w5 ⟨rfl, rfl⟩
      go_wp2
      go_roundw
      case rel => exact ⟨j + 1, by omega, by go_num, _, O5.out, L5.out, FIN.out, bel.setCell hgw _⟩
      case measure => simp [intOf]; omega
    · obtain rfl : j = 4 := by omega
      rw [List.take_of_length_le (by omega)] at htk
      have ho : Own wr w.heap.size g (n + 4) (xs ++ le4 (crc xs)) := by rw [← HD.out, show le4 D = (le4 D).take 4 from rfl, ← htk]; exact ou
      have HO := Lib.hid ho
      clear ou hul htk ho
      go_wp2
      go_ret
      exact ⟨g, _, rfl, HO.out, bel⟩

set_option maxHeartbeats 400000 in
theorem good_any (N : Nat) (A : Option Addr) (n cap : Nat) (xs : List Int) (hl : xs.length = n) (hm : n ≤ 1000) (w : World) (hr : RdB w N A xs) (hN : N ≤ w.heap.size) (hx : xs.length ≤ cap) :
    Calls Try.prog 69 #[.slice A n cap] w fun e w' => e = .returned (.bool (goodB xs)) ∧ Below w.heap.size w w' := by
  have hc : n ≤ cap := by rw [← hl]; exact hx
  have HR := Lib.hid hr; have HL := Lib.hid hl
  clear hr hl hx
  go_enter Try.func69, Try.ntmps69
  by_cases h4 : 4 ≤ n
  · obtain ⟨m, hmn⟩ : ∃ m : Nat, n = m + 4 := ⟨n - 4, by omega⟩
    subst hmn
    have gf := good_four xs m HL.out (fun k hk => by obtain ⟨_, _, _, _, _, hu⟩ := HR.out k hk; exact hu)
    have sm := fun c w0 hr hN => sum_any N A m c (xs.take m) (by rw [List.length_take, HL.out]; omega) (by unfold maxLen; omega) w0 hr hN
    have SM := Lib.hid sm
    have GF := Lib.hid gf
    clear sm gf
    have e1 : ((m : Int) + 4) - 4 = (m : Int) := by omega
    have i1 : (0 : Int) ≤ (m : Int) := by omega
    have i2 : (m : Int) ≤ (cap : Int) := by omega
    go_wp2_with fail
    refine (SM.out _ w (HR.out.take m) hN).mono ?_
    rintro e w1 ⟨rfl, b1⟩
    obtain ⟨D, hD⟩ : ∃ D, D = crc (xs.take m) := ⟨_, rfl⟩
    rw [← hD]
    have HD := Lib.hid hD
    obtain ⟨q0, q1⟩ := u32_bd D
    clear hD
    go_wp2
    go_loopw [5, 15] (fun _ iv wr => ∃ j : Nat, j ≤ 4 ∧ iv = .int .i64 (j : Int) ∧ (∀ i, i < j → xs.getD (m + i) 0 = byteOf D i) ∧ Below w.heap.size w wr) (fun _ iv _ => 4 - (intOf iv).toNat)
    case atStart => exact ⟨0, Nat.zero_le _, rfl, fun i hi => by omega, b1⟩
    case round =>
      obtain ⟨j, hj, rfl, hall, bel⟩ := hrel
      have HALL := Lib.hid hall
      clear hall
      by_cases hlt : j < 4
      · obtain ⟨bb, oo, rfl, hb, hcell, hu⟩ := HR.out (m + j) (by rw [HL.out]; omega)
        have z1 : wr.cell? ⟨bb, oo + (m + j), none⟩ = some (.int .u8 (xs.getD (m + j) 0)) := by rw [bel.cell (p := ⟨bb, oo + (m + j), none⟩) (Nat.lt_of_lt_of_le hb hN)]; exact hcell
        clear hcell
        have sb := sumByte_any D j hlt
        have SB := Lib.hid sb
        clear sb
        obtain ⟨s, hs⟩ : ∃ s : Nat, s = m + j := ⟨_, rfl⟩
        rw [← hs] at z1 hu
        have e2 : IntKind.i64.wrap ((m : Int) + (j : Int)) = (s : Int) := by rw [IntKind.wrap_i64]; omega
        have i3 : (0 : Int) ≤ (s : Int) := by omega
        have i4 : (s : Int) < (m : Int) + 4 := by omega
        have i5 : s < m + 4 := by omega
        obtain ⟨u0, u1⟩ := byteOf_U8 D j
        obtain ⟨u2, u3⟩ := id hu
        by_cases heq : xs.getD s 0 = byteOf D j
        · have hnext : ∀ i, i < j + 1 → xs.getD (m + i) 0 = byteOf D i := fun i hi => by
            by_cases hij : i = j
            · rw [hij, ← hs]; exact heq
            · exact HALL.out i (by omega)
          have HE := Lib.hid hnext
          clear hnext
          rw [heq] at z1
          have HS := Lib.hid hs
          clear heq hs hu u2 u3
          generalize byteOf D j = d at *
          go_wp2
          go_quiet (exact Calls.quiet_of_same (SB.out _))
          go_wp2
          go_roundw
          case rel => exact ⟨j + 1, by omega, by go_num, HE.out, below_drewN bel _⟩
          case measure => simp [intOf]; omega
        · have hg : goodB xs = false := by
            cases hgb : goodB xs
            · rfl
            · exact absurd (by rw [hs, HD.out]; exact GF.out.1 hgb j hlt) heq
          have HG := Lib.hid hg
          have t1 : (xs.getD s 0 != byteOf D j) = true := by simpa using heq
          have HS := Lib.hid hs
          clear hg heq hs
          generalize byteOf D j = d at *
          generalize xs.getD s 0 = x at *
          go_wp2
          go_quiet (exact Calls.quiet_of_same (SB.out _))
          go_wp2
          go_ret
          exact ⟨by rw [HG.out]; rfl, below_drewN bel _⟩
      · obtain rfl : j = 4 := by omega
        have hg : goodB xs = true := GF.out.2 (by rw [← HD.out]; exact HALL.out)
        have HG := Lib.hid hg
        clear hg
        go_wp2
        go_ret
        exact ⟨by rw [HG.out]; rfl, bel⟩
  · have hg : goodB xs = false := by unfold goodB; rw [HL.out]; simp [h4]
    rw [hg]
    have e1 : decide ((n : Int) - 4 < 0) = true := by rw [decide_eq_true_eq]; omega
    go_wp2
    go_ret
    exact ⟨rfl, Below.refl _ _⟩
end Go.Proofs.Ytilmicekpclmbaa
namespace Go.Proofs.Ytilmicekpclmbaa
set_option linter.unusedVariables false
set_option linter.unusedSimpArgs false
open Go.RowKit

theorem Own.base {w : World} {base base' g cap : Nat} {xs : List Int} (h : Own w base g cap xs) (hb : base' ≤ base) : Own w base' g cap xs := by
  refine ⟨⟨h.1.1, ?_⟩, h.2⟩
  rcases h.1.2 with e | ⟨g', c', cur, e, h1, h2⟩
  · exact Or.inl e
  · exact Or.inr ⟨g', c', cur, e, by omega, h2⟩
/-- Two bytes of a number, in their places. -/
theorem putTwo_any (g : Nat) (t : TypeId) (m at_ : Nat) (n : Int) (xs : List Int) (w : World) (ha : Arr w g t (vals xs)) (hl : xs.length = m) (hm : m ≤ 1000) (hat : at_ + 1 < m) (h0 : 0 ≤ n) (h1 : n ≤ 65535) :
    Calls Try.prog 63 #[.slice (some ⟨g, 0, none⟩) m m, .int .i64 at_, .int .i64 n] w fun e w' => e = .returned (.tuple #[]) ∧ w' = (w.setCell ⟨g, at_, none⟩ (.int .u8 (n % 256))).setCell ⟨g, at_ + 1, none⟩ (.int .u8 (n / 256 % 256)) := by
  obtain ⟨x0, hx0⟩ : ∃ x0, n % 256 = x0 := ⟨_, rfl⟩
  obtain ⟨x1, hx1⟩ : ∃ x1, n / 256 % 256 = x1 := ⟨_, rfl⟩
  have ax := ha.set at_ (.int .u8 x0)
  rw [vals_set] at ax
  have c0 : w.cell? ⟨g, at_, none⟩ = some (.int .u8 (xs.getD at_ 0)) := (ha.cell at_).trans (vals_at xs at_ (by omega))
  have c1 : (w.setCell ⟨g, at_, none⟩ (.int .u8 x0)).cell? ⟨g, at_ + 1, none⟩ = some (.int .u8 ((xs.set at_ x0).getD (at_ + 1) 0)) := (ax.cell _).trans (vals_at _ _ (by rw [List.length_set]; omega))
  have f0 := ha.frozen at_
  have f1 := ax.frozen (at_ + 1)
  generalize xs.getD at_ 0 = y0 at *
  generalize (xs.set at_ x0).getD (at_ + 1) 0 = y1 at *
  have hn : n / 256 % 256 = n / 256 := by omega
  have HN := Lib.hid hn
  rw [hx0, hx1]
  have e3 : (n / 256 : Int) = x1 := by rw [← hx1, hn]
  have b1 : 0 ≤ x1 ∧ x1 ≤ 255 := by omega
  have b0 : 0 ≤ x0 ∧ x0 ≤ 255 := by omega
  have i1 : (at_ : Int) + 1 < (m : Int) := by omega
  have i0 : (at_ : Int) < (m : Int) := by omega
  have i2 : ((at_ : Int) + 1).toNat = at_ + 1 := by omega
  have w8 : IntKind.u8.wrap x1 = x1 := by rw [IntKind.wrap_u8]; omega
  clear ha ax hl hn hx1
  go_enter Try.func63, Try.ntmps63
  go_wp2
  go_end0
  exact ⟨rfl, rfl⟩
theorem Arr.two {w : World} {g : Nat} {t : TypeId} {xs : List Int} (ha : Arr w g t (vals xs)) (k : Nat) (x y : Int) : Arr ((w.setCell ⟨g, k, none⟩ (.int .u8 x)).setCell ⟨g, k + 1, none⟩ (.int .u8 y)) g t (vals ((xs.set k x).set (k + 1) y)) := by
  have := (ha.set k (.int .u8 x)).set (k + 1) (.int .u8 y)
  rw [vals_set, vals_set] at this
  exact this
theorem Keep.cellF {F : Nat → Prop} {w w' : World} (h : Keep F w w') {a : Addr} (hF : F a.block) (v : Value) : Keep F w (w'.setCell a v) :=
  ⟨h.os, h.tape, h.output, by simpa [World.setCell] using h.size, fun k hk hn => by
    rw [← h.block k hk hn]
    exact Below.heap_setCell _ _ _ _ (fun e => hn (by rw [e]; exact hF))⟩
/-- The bytes in their places; nothing else turns. -/
theorem putTwo_arr (g : Nat) (t : TypeId) (m at_ : Nat) (n : Int) (xs : List Int) (w : World) (ha : Arr w g t (vals xs)) (hl : xs.length = m) (hm : m ≤ 1000) (hat : at_ + 1 < m) (h0 : 0 ≤ n) (h1 : n ≤ 65535) :
    Calls Try.prog 63 #[.slice (some ⟨g, 0, none⟩) m m, .int .i64 at_, .int .i64 n] w fun e w' => e = .returned (.tuple #[]) ∧ Arr w' g t (vals ((xs.set at_ (n % 256)).set (at_ + 1) (n / 256 % 256))) ∧ Keep (· = g) w w' :=
  (putTwo_any g t m at_ n xs w ha hl hm hat h0 h1).mono fun e w' ⟨he, hw⟩ => ⟨he, by rw [hw]; exact ha.two _ _ _, by rw [hw]; exact ((Keep.refl (· = g) w).cellF (a := ⟨g, at_, none⟩) rfl _).cellF (a := ⟨g, at_ + 1, none⟩) rfl _⟩
theorem Try.zero_124 : (Try.prog.info? 121).map (fun i => (i.zero, i.size)) = some (some (.agg (vals (zeros 124)).toArray), 124) := by kernel_rfl
theorem zero_124_run : ∃ Z : Array Value, (∀ w, (zeroValue 121).run Try.prog w = .ok (.agg Z) w) ∧ Hid (Z = (vals (zeros 124)).toArray) :=
  ⟨_, (zero_of_info Try.zero_124).1, Lib.hid rfl⟩
theorem put_no (L : Lf) (h : L.Ok) (hr : L.rt = false) (w : World) :
    Calls Try.prog 48 #[.agg (lv L).toArray] w fun e w' => e = .returned (.slice none 0 0) ∧ Below w.heap.size w w' := by
  have H := Lib.hid h; have HR := Lib.hid hr
  have RT := Lib.hid (fun w0 => right_any L h w0)
  clear h hr
  go_enter Try.func48, Try.ntmps48
  go_wp2_with (with_reducible refine box_leaf rfl _ rfl L H.out rfl ?_)
  intro w1 l1 b1 s1
  obtain ⟨b, hb⟩ : ∃ b, b = w.heap.size := ⟨_, rfl⟩
  rw [← hb] at l1 ⊢
  have L1 := Lib.hid l1; have B1 := Lib.hid b1
  clear hb b1 s1 l1
  go_wp2_with (with_reducible refine load_leaf rfl _ rfl b L L1.out rfl ?_)
  refine (RT.out w1).mono ?_
  rintro e w2 ⟨rfl, b2⟩
  rw [HR.out]
  have B2 := Lib.hid (bstep B1.out b2)
  clear b2
  go_wp2
  go_ret
  exact ⟨rfl, B2.out⟩
theorem body_sets {xs : List Int} (h : xs.length = 116) (a b c d e f s k : Int) : ((((((((xs ++ zeros 8).set 116 a).set (116 + 1) b).set 118 c).set (118 + 1) d).set 120 e).set (120 + 1) f).set 122 s).set 123 k = xs ++ [a, b, c, d, e, f, s, k] := by
  rw [List.set_append_right _ _ (by omega), List.set_append_right _ _ (by omega), List.set_append_right _ _ (by omega), List.set_append_right _ _ (by omega), List.set_append_right _ _ (by omega), List.set_append_right _ _ (by omega), List.set_append_right _ _ (by omega), List.set_append_right _ _ (by omega), h]
  rfl
/-- An array of bytes, as a slice that reads. -/
theorem Arr.reads {w : World} {g : Nat} {t : TypeId} {xs : List Int} (ha : Arr w g t (vals xs)) (hu : ∀ k, k < xs.length → U8 (xs.getD k 0)) : RdB w w.heap.size (some ⟨g, 0, none⟩) xs := fun k hk =>
  ⟨g, 0, rfl, ha.lt, by rw [Nat.zero_add]; exact (ha.cell k).trans (vals_at xs k hk), hu k hk⟩
/-- What Put leaves of a right leaf. -/
def PutL (w : World) (L : Lf) (e : Ending) (w' : World) : Prop :=
  ∃ g c, e = .returned (.slice (some ⟨g, 0, none⟩) 128 c) ∧ Own w' w.heap.size g c L.put ∧ Below w.heap.size w w'
set_option maxHeartbeats 800000 in
theorem put_yes (L : Lf) (h : L.Ok) (hr : L.rt = true) (w : World) :
    Calls Try.prog 48 #[.agg (lv L).toArray] w (PutL w L) := by
  have H := Lib.hid h; have HR := Lib.hid hr
  have RT := Lib.hid (fun w0 => right_any L h w0)
  have RG := Lib.hid ((Lf.rt_iff h).1 hr)
  have LL : Hid ((vals L.load).length = 116) := Lib.hid (by rw [vals_length, h.l])
  clear h hr
  obtain ⟨Z, hz, HZ⟩ := zero_124_run
  go_enter Try.func48, Try.ntmps48
  go_wp2_with (with_reducible refine box_leaf rfl _ rfl L H.out rfl ?_)
  intro w1 l1 b1 s1
  obtain ⟨b, hb⟩ : ∃ b, b = w.heap.size := ⟨_, rfl⟩
  rw [← hb] at l1 ⊢
  have L1 := Lib.hid l1; have B1 := Lib.hid b1
  have hbw : w.heap.size ≤ b := by omega
  clear hb b1 s1 l1
  go_wp2_with (with_reducible refine load_leaf rfl _ rfl b L L1.out rfl ?_)
  refine (RT.out w1).mono ?_
  rintro e w2 ⟨rfl, b2⟩
  rw [HR.out]
  have L2 := Lib.hid (L1.out.below b2)
  have B2 := Lib.hid (bstep B1.out b2)
  clear b2
  go_wp2_with fail
  obtain ⟨g, hg⟩ : ∃ g, g = w2.heap.size := ⟨_, rfl⟩
  obtain ⟨w3, hw3⟩ : ∃ w3, w3 = w2.alloc (.cells Z 121) := ⟨_, rfl⟩
  have A3 : Hid (Arr w3 g 121 (vals (zeros 124))) := Lib.hid (by rw [hw3, hg, HZ.out]; exact Arr.new w2 _ _)
  have L3 : Hid (LfAt w3 b L) := Lib.hid (by rw [hw3]; exact L2.out.alloc _)
  have B3 : Hid (Below w.heap.size w w3) := Lib.hid (by rw [hw3]; exact B2.out.alloc B2.out.size _)
  have hbg : b < g := by have := L2.out.lt; omega
  have hgw : w.heap.size ≤ g := by omega
  rw [← hw3, ← hg]
  clear hw3 hg L1 L2 B1 B2 hz HZ
  obtain ⟨V, hV⟩ : ∃ V, V = vals L.load := ⟨_, rfl⟩
  have VL : Hid (V.length = 116) := Lib.hid (by rw [hV]; exact LL.out)
  have V1 : Hid (∀ v ∈ V, v.oneCell' = true) := Lib.hid (by rw [hV]; exact vals_one _)
  have VR : Hid (∀ j v, V[j]? = some v → w3.drew.cell? ((⟨b, 5, none⟩ : Addr).add j) = some v) := Lib.hid (by rw [hV]; exact fun j v hv => L3.out.reads.news j v hv)
  obtain ⟨Y, hY⟩ : ∃ Y, Y = vals (zeros 124) := ⟨_, rfl⟩
  have YA : Hid (w3.drew.heap[g]? = some (.cells Y.toArray 121 (0, 0))) := Lib.hid (by rw [hY]; exact A3.out)
  have YL : Hid (0 + V.length ≤ Y.length) := Lib.hid (by rw [hY, VL.out, vals_length, zeros_length]; decide)
  have HV := Lib.hid hV; have HY := Lib.hid hY
  clear hV hY
  have hsz : (Try.prog.info? 5).map (·.size) = some 1 := by kernel_rfl
  go_region_law (refine step_copy_splice rfl (.tmp 7) (.tmp 9) 30 30 rfl 5 Try.underlying30 hsz (some ⟨g, 0, none⟩) (some ⟨b, 5, none⟩) 124 124 116 116 (by rfl) (by rfl) g 0 Y 121 YA.out V VL.out (fun _ => ⟨rfl, _, rfl, VR.out⟩) YL.out V1.out g w3.drew (Below.refl _ _) (Nat.le_refl _) ?_; intro w4 hg4 hb4)
  have A4 : Hid (Arr w4 g 121 (vals (L.load ++ zeros 8))) := Lib.hid (by
    have := hg4.out
    rw [HY.out, HV.out] at this
    have e : splice (vals (zeros 124)) 0 (vals L.load) = vals (L.load ++ zeros 8) := by
      unfold splice
      rw [List.take_zero, List.nil_append, Nat.zero_add, LL.out, ← vals_append]
      congr 1
    rw [e] at this
    exact this)
  have L4 : Hid (LfAt w4 b L) := Lib.hid (L3.out.same (hb4.block b hbg))
  have B4 : Hid (Below w.heap.size w w4) := Lib.hid (B3.out.drew.trans (hb4.mono hgw))
  clear hg4 hb4 A3 L3 B3 VL V1 VR YA YL HV HY hsz
  obtain ⟨rk, ⟨f0, f1⟩, ⟨p0, p1⟩, ⟨n0, n1⟩, ⟨s0, s1⟩, _⟩ := RG.out
  obtain ⟨X0, hX0⟩ : ∃ X0, X0 = L.load ++ zeros 8 := ⟨_, rfl⟩
  rw [← hX0] at A4
  have Q0 : Hid (X0.length = 124) := Lib.hid (by rw [hX0, List.length_append, H.out.l]; rfl)
  have HX0 := Lib.hid hX0
  clear hX0
  have c1 := L4.out.file
  have PT := Lib.hid (putTwo_arr g 121 124 116 L.file X0 w4.drew A4.out Q0.out (by decide) (by decide) f0 f1)
  go_wp2_with fail
  go_region_with ((go_at_call 63; refine PT.out.mono ?_; rintro e w5 ⟨rfl, a5, k5⟩; have A5 := Lib.hid a5; have K5 := Lib.hid k5; clear a5 k5))
  have L5 : Hid (LfAt w5 b L) := Lib.hid (L4.out.same (K5.out.block b L4.out.lt (by omega)))
  have B5 : Hid (Below w.heap.size w w5) := Lib.hid (K5.out.below (fun k hk => by omega) B4.out.drew B4.out.size)
  obtain ⟨X1, hX1⟩ : ∃ X1, X1 = (X0.set 116 (L.file % 256)).set (116 + 1) (L.file / 256 % 256) := ⟨_, rfl⟩
  rw [← hX1] at A5
  have Q1 : Hid (X1.length = 124) := Lib.hid (by rw [hX1, List.length_set, List.length_set]; exact Q0.out)
  have HX1 := Lib.hid hX1
  clear hX1 c1 PT A4 L4 B4 K5 Q0
  have c1 := L5.out.place
  have PT := Lib.hid (putTwo_arr g 121 124 118 L.place X1 w5.drew A5.out Q1.out (by decide) (by decide) p0 p1)
  go_wp2_with fail
  go_region_with ((go_at_call 63; refine PT.out.mono ?_; rintro e w6 ⟨rfl, a5, k5⟩; have A6 := Lib.hid a5; have K5 := Lib.hid k5; clear a5 k5))
  have L6 : Hid (LfAt w6 b L) := Lib.hid (L5.out.same (K5.out.block b L5.out.lt (by omega)))
  have B6 : Hid (Below w.heap.size w w6) := Lib.hid (K5.out.below (fun k hk => by omega) B5.out.drew B5.out.size)
  obtain ⟨X2, hX2⟩ : ∃ X2, X2 = (X1.set 118 (L.place % 256)).set (118 + 1) (L.place / 256 % 256) := ⟨_, rfl⟩
  rw [← hX2] at A6
  have Q2 : Hid (X2.length = 124) := Lib.hid (by rw [hX2, List.length_set, List.length_set]; exact Q1.out)
  have HX2 := Lib.hid hX2
  clear hX2 c1 PT A5 L5 B5 K5 Q1
  have c1 := L6.out.next
  have PT := Lib.hid (putTwo_arr g 121 124 120 L.next X2 w6.drew A6.out Q2.out (by decide) (by decide) n0 n1)
  go_wp2_with fail
  go_region_with ((go_at_call 63; refine PT.out.mono ?_; rintro e w7 ⟨rfl, a5, k5⟩; have A7 := Lib.hid a5; have K5 := Lib.hid k5; clear a5 k5))
  have L7 : Hid (LfAt w7 b L) := Lib.hid (L6.out.same (K5.out.block b L6.out.lt (by omega)))
  have B7 : Hid (Below w.heap.size w w7) := Lib.hid (K5.out.below (fun k hk => by omega) B6.out.drew B6.out.size)
  obtain ⟨X3, hX3⟩ : ∃ X3, X3 = (X2.set 120 (L.next % 256)).set (120 + 1) (L.next / 256 % 256) := ⟨_, rfl⟩
  rw [← hX3] at A7
  have Q3 : Hid (X3.length = 124) := Lib.hid (by rw [hX3, List.length_set, List.length_set]; exact Q2.out)
  have HX3 := Lib.hid hX3
  clear hX3 c1 PT A6 L6 B6 K5 Q2
  have c4 := L7.out.size
  have kb : 1 ≤ L.kind ∧ L.kind ≤ 2 := by omega
  obtain ⟨kb0, kb1⟩ := kb
  have y1 : w7.cell? ⟨g, 122, none⟩ = some (.int .u8 (X3.getD 122 0)) := (A7.out.cell 122).trans (vals_at X3 122 (by rw [Q3.out]; decide))
  have z1 := A7.out.frozen 122
  have a8 := A7.out.set 122 (.int .u8 L.size)
  rw [vals_set] at a8
  have l8 := L7.out.far (g := g) (k := 122) (by omega) (.int .u8 L.size)
  have c0 := l8.kind
  have y2 : (w7.setCell ⟨g, 122, none⟩ (.int .u8 L.size)).cell? ⟨g, 123, none⟩ = some (.int .u8 ((X3.set 122 L.size).getD 123 0)) := (a8.cell 123).trans (vals_at _ 123 (by rw [List.length_set, Q3.out]; decide))
  have z2 := a8.frozen 123
  have a9 := a8.set 123 (.int .u8 L.kind)
  rw [vals_set] at a9
  obtain ⟨X, hX⟩ : ∃ X, X = (X3.set 122 L.size).set 123 L.kind := ⟨_, rfl⟩
  rw [← hX] at a9
  have XB : Hid (X = L.body) := Lib.hid (by
    rw [hX, HX3.out, HX2.out, HX1.out, HX0.out, body_sets H.out.l]
    rfl)
  clear hX
  have XU : Hid (∀ k, k < X.length → U8 (X.getD k 0)) := Lib.hid (by rw [XB.out]; exact Lf.body_u8 H.out RG.out)
  have XL : Hid (X.length = 124) := Lib.hid (by rw [XB.out]; exact Lf.body_len H.out)
  have A9 := Lib.hid a9; have L8 := Lib.hid l8
  have B9 : Hid (Below w.heap.size w ((w7.setCell ⟨g, 122, none⟩ (.int .u8 L.size)).setCell ⟨g, 123, none⟩ (.int .u8 L.kind))) := Lib.hid ((B7.out.setCell (p := ⟨g, 122, none⟩) hgw _).setCell (p := ⟨g, 123, none⟩) hgw _)
  clear a8 l8 a9 L7 A7 Q3 HX0 HX1 HX2 HX3
  have CL := Lib.hid (close_any _ (some ⟨g, 0, none⟩) 124 124 X XL.out (by decide) _ (A9.out.reads XU.out) (Nat.le_refl _) (fun e => by cases e))
  go_wp2_with fail
  refine CL.out.mono ?_
  rintro e w8 ⟨gg, c, rfl, ow, bw⟩
  have OW : Hid (Own w8 w.heap.size gg c L.put) := Lib.hid (by
    have := ow.base (base' := w.heap.size) B9.out.size
    rw [XB.out] at this
    exact this)
  have BW := Lib.hid (bstep B9.out bw)
  clear ow bw
  go_wp2
  go_ret
  exact ⟨gg, c, rfl, OW.out, BW.out⟩
end Go.Proofs.Ytilmicekpclmbaa
