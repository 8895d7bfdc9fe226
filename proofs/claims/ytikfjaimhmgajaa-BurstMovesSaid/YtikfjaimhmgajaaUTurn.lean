/-
  The contract of what BurstFound calls to turn bits: it turns those bits of its bytes that the word says, and nothing else.
-/
import Derived.Test.YtikfjaimhmgajaaWOwn
import Derived.Lib.MinMax
import Derived.Deep.DeepCutAuto
import Derived.Deep.RegionHeld3
import Derived.Deep.QuietTactic
import Derived.BigQuiet
namespace Go.Proofs.Ytikfjaimhmgajaa
set_option linter.unusedVariables false
set_option linter.unusedSimpArgs false
open Go.RowKit

/-- What is behind so many bits. -/
def TurnL (W0 : World) (base g cap m p nx nc nb : Nat) (zs : List Int) (X : B32) (k : Nat) (w : World) : Prop :=
  ∃ ys : List Int, Own w base g cap ys ∧ ys.length = m ∧ feeds ones ys = feeds ones zs ^^^ csteps (8 * m - p) (some1 X k) ∧ Cell1 w nx (.int .u32 (wrd X)) ∧ Cell1 w nc (.slice (some ⟨g, 0, none⟩) m cap) ∧ Cell1 w nb (.int .i64 p) ∧ Below W0.heap.size W0 w

theorem mask_of (r : Nat) (h : r < 8) : ∃ mm : Int, (2 : Int) ^ r % 256 = mm ∧ U8 mm ∧ byteW mm = 1#32 <<< r := by
  match r, h with
  | 0, _ => exact ⟨1, by decide, ⟨by decide, by decide⟩, by decide⟩
  | 1, _ => exact ⟨2, by decide, ⟨by decide, by decide⟩, by decide⟩
  | 2, _ => exact ⟨4, by decide, ⟨by decide, by decide⟩, by decide⟩
  | 3, _ => exact ⟨8, by decide, ⟨by decide, by decide⟩, by decide⟩
  | 4, _ => exact ⟨16, by decide, ⟨by decide, by decide⟩, by decide⟩
  | 5, _ => exact ⟨32, by decide, ⟨by decide, by decide⟩, by decide⟩
  | 6, _ => exact ⟨64, by decide, ⟨by decide, by decide⟩, by decide⟩
  | 7, _ => exact ⟨128, by decide, ⟨by decide, by decide⟩, by decide⟩
/-- One bit more. -/
theorem turn_one (ys zs : List Int) (X : B32) (m p k : Nat) (mm : Int) (hl : ys.length = m) (hp : p + 32 ≤ 8 * m) (hk : k < 32) (hx : X.getLsbD k = true) (hf : feeds ones ys = feeds ones zs ^^^ csteps (8 * m - p) (some1 X k)) (hu : U8 (ys.getD ((p + k) / 8) 0)) (hm : U8 mm) (hb : byteW mm = 1#32 <<< ((p + k) % 8)) :
    feeds ones (ys.set ((p + k) / 8) (xorB (ys.getD ((p + k) / 8) 0) mm)) = feeds ones zs ^^^ csteps (8 * m - p) (some1 X (k + 1)) := by
  rw [feeds_set ones ys _ mm (by omega) hu hm, hf, hl, hb, bit_steps m p k hk (by omega) hp, BitVec.xor_assoc, ← csteps_xor]
  simp only [some1]
  rw [if_pos hx]

set_option maxRecDepth 100000 in
set_option maxHeartbeats 1000000 in
theorem turn_any (W0 : World) (base g cap m p nx nc nb : Nat) (zs : List Int) (X : B32) (w : World) (hg : W0.heap.size ≤ g) (hp : p + 32 ≤ 8 * m) (hm : m ≤ 1000)
    (h : TurnL W0 base g cap m p nx nc nb zs X 0 w) (d1 : g ≠ nx) (d2 : g ≠ nc) (d3 : g ≠ nb) :
    Calls Try.prog 16 #[.pointer (some ⟨nx, 0, none⟩), .pointer (some ⟨nc, 0, none⟩), .pointer (some ⟨nb, 0, none⟩)] w fun e w' => e = .returned (.tuple #[]) ∧ TurnL W0 base g cap m p nx nc nb zs X 32 w' := by
  have H := Lib.hid h
  clear h
  go_enter Try.func16, Try.ntmps16
  go_wp2
  go_loopw [3] (fun kv wr => ∃ k : Nat, k ≤ 32 ∧ kv = .int .i64 k ∧ TurnL W0 base g cap m p nx nc nb zs X k wr) (fun kv _ => 32 - (intOf kv).toNat)
  case atStart => exact ⟨0, Nat.zero_le _, rfl, H.out⟩
  case round =>
    obtain ⟨k, hk, rfl, ys, ow, hyl, hf, cx, cc, cb, bel⟩ := hrel
    by_cases hlt : k < 32
    · have hb := bit_u32 X k
      have HF := Lib.hid hf; have HL := Lib.hid hyl; have OW := Lib.hid ow; have CX := Lib.hid cx; have CC := Lib.hid cc; have CB := Lib.hid cb
      have x1 := cx.2; have x2 := cc.2; have x3 := cb.2
      obtain ⟨v0, v1⟩ := u32_bd X
      clear hf hyl ow cx cc cb
      by_cases hbit : X.getLsbD k = true
      · rw [if_pos hbit] at hb
        have b1 : (bits .and .u32 (wrd X / 2 ^ k) 1 == 1) = true := by rw [hb]; rfl
        obtain ⟨s, hs⟩ : ∃ s : Nat, s = p + k := ⟨_, rfl⟩
        obtain ⟨q, hq⟩ : ∃ q : Nat, q = s / 8 := ⟨_, rfl⟩
        obtain ⟨r, hrr⟩ : ∃ r : Nat, r = s % 8 := ⟨_, rfl⟩
        have q1 : q < m := by omega
        have r1 : r < 8 := by omega
        have i1 : IntKind.i64.wrap ((p : Int) + (k : Int)) = (s : Int) := by rw [IntKind.wrap_i64]; omega
        have i2 : (s : Int).tdiv 8 = (q : Int) := by rw [Int.tdiv_eq_ediv_of_nonneg (by omega)]; omega
        have i3 : (s : Int).tmod 8 = (r : Int) := by rw [Int.tmod_eq_emod_of_nonneg (by omega)]; omega
        have i4 : (0 : Int) ≤ (q : Int) := by omega
        have i5 : (q : Int) < (m : Int) := by omega
        have z1 := OW.out.cell (k := q) (by rw [HL.out]; exact q1)
        have f1 := OW.out.frozen q
        obtain ⟨mm, i6, um, bm⟩ := mask_of r r1
        have uv : U8 (ys.getD q 0) := OW.out.2 q (by rw [HL.out]; exact q1)
        have fin := turn_one ys zs X m p k mm HL.out hp hlt hbit HF.out (by rw [← hs, ← hq]; exact uv) um (by rw [← hs, ← hrr]; exact bm)
        rw [← hs, ← hq] at fin
        have i7 := xor_u8 (ys.getD q 0) mm
        have OS := Lib.hid (OW.out.set q (xorB (ys.getD q 0) mm) (xorB_U8 _ _))
        have SL : (ys.set q (xorB (ys.getD q 0) mm)).length = m := by rw [List.length_set]; exact HL.out
        obtain ⟨V, hV⟩ : ∃ V, V = xorB (ys.getD q 0) mm := ⟨_, rfl⟩
        rw [← hV] at i7 OS SL fin
        obtain ⟨v, hv⟩ : ∃ v, v = ys.getD q 0 := ⟨_, rfl⟩
        rw [← hv] at i7 z1 uv
        have FIN := Lib.hid fin; have HSL := Lib.hid SL
        clear hs hq hrr fin SL hV hv bm
        obtain ⟨uv0, uv1⟩ := id uv
        obtain ⟨um0, um1⟩ := id um
        go_wp2_with fail
        go_region
        all_goals
          clear i1 i2 i3 i6 i7
          go_wp2
          go_roundw
          case rel => exact ⟨k + 1, by omega, by go_num, _, OS.out.drew, HSL.out, FIN.out, CX.out.far d1 _, CC.out.far d2 _, CB.out.far d3 _, (bel.setCell hg _).drew⟩
          case measure => simp [intOf]; omega
      · rw [if_neg hbit] at hb
        have b1 : (bits .and .u32 (wrd X / 2 ^ k) 1 == 1) = false := by rw [hb]; rfl
        go_wp2
        go_roundw
        case rel => exact ⟨k + 1, by omega, by go_num, ys, OW.out, HL.out, by simp only [some1]; rw [if_neg hbit]; exact HF.out, CX.out, CC.out, CB.out, bel⟩
        case measure => simp [intOf]; omega
    · obtain rfl : k = 32 := by omega
      go_wp2
      go_end0
      exact ⟨rfl, ys, ow, hyl, hf, cx, cc, cb, bel⟩
end Go.Proofs.Ytikfjaimhmgajaa
