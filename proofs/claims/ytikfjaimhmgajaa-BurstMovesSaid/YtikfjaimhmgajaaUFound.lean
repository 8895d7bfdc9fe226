/-
  The walk of the statement BurstFound: for every slice of bytes, every int and every word the call returns true; nothing that was in memory turns.
-/
import Derived.Test.YtikfjaimhmgajaaURuns
import Derived.Test.YtikfjaimhmgajaaBBytes
import Derived.Test.YtikfjaimhmgajaaUTurn
import Derived.Test.YtikfjaimhmgajaaBWithinI
import Derived.Lib.MinMax
import Derived.Deep.DeepCutAuto
import Derived.Deep.RegionHeld3
namespace Go.Proofs.Ytikfjaimhmgajaa
set_option linter.unusedVariables false
set_option linter.unusedSimpArgs false
open Go.RowKit

theorem TurnL.start {W0 : World} {base g cap m p nx nc nb : Nat} {zs : List Int} {X : B32} {w : World} (ho : Own w base g cap zs) (hl : zs.length = m) (h1 : Cell1 w nx (.int .u32 (wrd X))) (h2 : Cell1 w nc (.slice (some ⟨g, 0, none⟩) m cap)) (h3 : Cell1 w nb (.int .i64 p)) (hb : Below W0.heap.size W0 w) : TurnL W0 base g cap m p nx nc nb zs X 0 w :=
  ⟨zs, ho, hl, by simp only [some1]; rw [csteps_zero, BitVec.xor_zero], h1, h2, h3, hb⟩
theorem good_turned (zs ys : List Int) (X : B32) (t : Nat) (h : feeds ones zs = rest) (hl : 4 ≤ ys.length) (hf : feeds ones ys = feeds ones zs ^^^ csteps t X) : goodB ys = (wrd X == 0) := by
  have hz : wrd X = 0 ↔ X = 0#32 := ⟨fun h => u32_inj (by rw [h]; decide), fun h => by rw [h]; decide⟩
  have e : (feeds ones ys = rest) ↔ wrd X = 0 := by
    rw [hz, hf, h]
    refine ⟨fun q => ?_, fun q => by rw [q, csteps_zero, BitVec.xor_zero]⟩
    have := congrArg (fun b => rest ^^^ b) q
    simp only [← BitVec.xor_assoc, BitVec.xor_self, BitVec.zero_xor] at this
    exact csteps_eq_zero this
  unfold goodB
  rw [Bool.eq_iff_iff]
  simp [hl, e]
theorem good_again (zs ys us : List Int) (X : B32) (t : Nat) (h : feeds ones zs = rest) (hl : 4 ≤ us.length) (hf : feeds ones ys = feeds ones zs ^^^ csteps t X) (hg : feeds ones us = feeds ones ys ^^^ csteps t X) : goodB us = true := by
  have e : feeds ones us = rest := by rw [hg, hf, BitVec.xor_assoc, BitVec.xor_self, BitVec.xor_zero, h]
  unfold goodB
  simp [hl, e]

set_option maxRecDepth 100000 in
set_option maxHeartbeats 2000000 in
theorem found_any (A : Option Addr) (len cap : Nat) (xs : List Int) (t : Int) (X : B32) (w : World) (hlen : xs.length = len) (hr : RdB w w.heap.size A xs) (h1 : len ≤ cap) (h2 : cap ≤ maxLen) (hA : A = none → cap = 0) (ht : I64 t) :
    Calls Try.prog 5 #[.slice A len cap, .int .i64 t, .int .u32 (wrd X)] w fun e w' => e = .returned (.bool true) ∧ Below w.heap.size w w' := by
  unfold maxLen at h2
  obtain ⟨n, hn⟩ : ∃ n : Nat, n = min len 90 := ⟨_, rfl⟩
  have e1 : min (len : Int) 90 = (n : Int) := by omega
  have n1 : n ≤ 90 := by omega
  have n2 : n ≤ len := by omega
  clear hn
  have hr' := hr.take n
  obtain ⟨ys, hys⟩ : ∃ ys, ys = xs.take n := ⟨_, rfl⟩
  have hyl : ys.length = n := by rw [hys, List.length_take]; omega
  rw [← hys] at hr'
  have HR := Lib.hid hr'; have HA := Lib.hid hA; have HL := Lib.hid hyl
  clear hr hA hr' hys hlen hyl
  go_enter Try.func5, Try.ntmps5
  go_wp2_with fail
  have CX := Cell1.new w (.int .u32 (wrd X)) 24
  have b0 := (Below.refl w.heap.size w).alloc (Nat.le_refl _) (.cells #[.int .u32 (wrd X)] 24)
  obtain ⟨W0, hW0⟩ : ∃ W0, W0 = w.alloc (.cells #[.int .u32 (wrd X)] 24) := ⟨_, rfl⟩
  rw [← hW0] at CX b0 ⊢
  clear hW0
  have cl := fun N A' c' w0 hr hN => close_any N A' n c' ys HL.out (by omega) w0 hr hN
  have CL := Lib.hid cl
  clear cl
  refine (CL.out _ _ cap W0 (HR.out.below b0) b0.size HA.out).mono ?_
  rintro e w2 ⟨g, c, rfl, ow, b2⟩
  have OC := Lib.hid ow
  have CX2 := CX.below b2
  have gw : w.heap.size < g := Nat.lt_of_lt_of_le CX.1 OC.out.lt.1
  have B2 := bstep b0 b2
  have lc : (ys ++ le4 (crc ys)).length = n + 4 := by rw [List.length_append, HL.out]; rfl
  have q2 : n + 4 ≤ c := by have := OC.out.cap.1; rw [lc] at this; exact this
  have q3 := OC.out.cap.2
  unfold maxLen at q3
  have LC := Lib.hid lc
  clear ow b0 b2 CL CX lc
  have w15 : IntKind.i64.wrap (8 * ((n : Int) + 4)) = 8 * ((n : Int) + 4) := by rw [IntKind.wrap_i64]; omega
  go_wp2_with fail
  refine (within_in t 0 (8 * ((n : Int) + 4) - 32) ht (by decide) (by omega) (by omega) (by omega) _).mono ?_
  rintro e w' ⟨y, rfl, y0, y1, rfl⟩
  obtain ⟨p, rfl⟩ := Int.eq_ofNat_of_zero_le y0
  have p1 : p + 32 ≤ 8 * (n + 4) := by omega
  clear y0 y1 w15
  have gd := fun N A' c' w0 hr hN => good_any N A' (n + 4) c' (ys ++ le4 (crc ys)) LC.out (by omega) w0 hr hN
  rw [good_closed] at gd
  have GD := Lib.hid gd
  clear gd
  go_wp2_with fail
  have CC := (Cell1.new w2 (.slice (some ⟨g, 0, none⟩) (n + 4) c) 22).alloc (.cells #[.int .i64 p] 3)
  have CB := Cell1.new (w2.alloc (.cells #[.slice (some ⟨g, 0, none⟩) (n + 4) c] 22)) (.int .i64 p) 3
  have en : (w2.alloc (.cells #[.slice (some ⟨g, 0, none⟩) (n + 4) c] 22)).heap.size = w2.heap.size + 1 := by simp
  rw [en] at CB
  have CX3 := (CX2.alloc (.cells #[.slice (some ⟨g, 0, none⟩) (n + 4) c] 22)).alloc (.cells #[.int .i64 p] 3)
  have O3 := (OC.out.alloc (.cells #[.slice (some ⟨g, 0, none⟩) (n + 4) c] 22)).alloc (.cells #[.int .i64 p] 3)
  have B3 := (B2.alloc B2.size (.cells #[.slice (some ⟨g, 0, none⟩) (n + 4) c] 22)).alloc (by rw [en]; have := B2.size; omega) (.cells #[.int .i64 p] 3)
  obtain ⟨W3, hW3⟩ : ∃ W3, W3 = (w2.alloc (.cells #[.slice (some ⟨g, 0, none⟩) (n + 4) c] 22)).alloc (.cells #[.int .i64 p] 3) := ⟨_, rfl⟩
  rw [← hW3] at CC CB CX3 O3 B3 ⊢
  have gl : g < w2.heap.size := OC.out.lt.2
  have sz2 := B2.size
  clear hW3 en OC CX2 B2
  obtain ⟨nx, hnx⟩ : ∃ nx, nx = w.heap.size := ⟨_, rfl⟩
  rw [← hnx] at CX3
  refine (GD.out _ _ c W3 O3.reads (Nat.le_refl _) O3.cap.1).mono ?_
  rintro e w4 ⟨rfl, b4⟩
  have OC4 := Lib.hid (O3.below b4)
  have CC4 := CC.below b4
  have CB4 := CB.below b4
  have CX4 := CX3.below b4
  have B4 := bstep B3 b4
  clear O3 CC CB CX3 B3 b4 GD
  obtain ⟨zs, hzs⟩ : ∃ zs, zs = ys ++ le4 (crc ys) := ⟨_, rfl⟩
  have gz : feeds ones zs = rest := by rw [hzs]; exact (feeds_closed ys (crc ys)).2 rfl
  rw [← hzs] at OC4 LC
  have GZ := Lib.hid gz
  clear hzs gz
  have st := TurnL.start OC4.out LC.out CX4 CC4 CB4 B4
  have ST := Lib.hid st
  have d1 : g ≠ nx := by omega
  have d2 : g ≠ w2.heap.size := by omega
  have d3 : g ≠ w2.heap.size + 1 := by omega
  have hgw : w.heap.size ≤ g := by omega
  have sx2 : some1 X 32 = X := some1_all X
  have SX2 := Lib.hid sx2
  clear st OC4 CC4 CB4 CX4 B4 sx2
  have HNX := Lib.hid hnx
  clear hnx
  go_wp2_with fail
  rw [← HNX.out]
  refine (turn_any w _ g c (n + 4) p nx _ _ zs X w4 hgw p1 (by omega) ST.out d1 d2 d3).mono ?_
  rintro e w5 ⟨rfl, us, o5, l5, f5, cx5, cc5, cb5, b5⟩
  rw [SX2.out] at f5
  have g1 := good_turned zs us X _ GZ.out (by omega) f5
  have gd := fun N A' c' w0 hr hN => good_any N A' (n + 4) c' us l5 (by omega) w0 hr hN
  rw [g1] at gd
  have x5 := cx5.2; have c5 := cc5.2; have x5l := cx5.1; have c5l := cc5.1
  obtain ⟨z, hz⟩ : ∃ z : Bool, (wrd X == 0) = z := ⟨_, rfl⟩
  rw [hz] at gd
  have GD := Lib.hid gd; have O5 := Lib.hid o5; have F5 := Lib.hid f5; have L5 := Lib.hid l5; have CX5 := Lib.hid cx5; have CC5 := Lib.hid cc5; have CB5 := Lib.hid cb5
  clear gd o5 f5 l5 cx5 cc5 cb5 g1
  generalize w2.heap.size + 1 = nb at *
  generalize w2.heap.size = nc at *
  obtain ⟨v0, v1⟩ := u32_bd X
  go_wp2_with fail
  go_region_held3 (fun w' => Below w5.heap.size w5 w' ∧ w'.cell? ⟨nx, 0, none⟩ = some (.int .u32 (wrd X)) ∧ w'.cell? ⟨nc, 0, none⟩ = some (.slice (some ⟨g, 0, none⟩) (n + 4) c)) (first | exact keepT (by assumption) (by assumption) x5l c5l | exact ⟨(Below.refl _ _).drew, x5, c5⟩)
    (first
      | (go_at_call 10; obtain ⟨hq, _⟩ := ‹Below w5.heap.size w5 _ ∧ _›; (with_reducible refine (GD.out _ _ c _ (O5.out.below hq).reads (Nat.le_refl _) O5.out.cap.1).mono ?_); rintro e w' ⟨rfl, hbb⟩))
  obtain ⟨bW, -, -⟩ := ‹Below w5.heap.size w5 _ ∧ _›
  rename World => w6
  have st2 := TurnL.start (W0 := w) (O5.out.below bW) L5.out (CX5.out.below bW) (CC5.out.below bW) (CB5.out.below bW) (bstep b5 bW)
  have ST2 := Lib.hid st2
  clear st2 ST O5 CX5 CC5 CB5 x5 c5 bW GD
  have HZ := Lib.hid hz
  clear hz
  go_wp2_with fail
  refine (turn_any w _ g c (n + 4) p nx nc nb us X _ hgw p1 (by omega) ST2.out d1 d2 d3).mono ?_
  rintro e w7 ⟨rfl, vs, o7, l7, f7, cx7, cc7, cb7, b7⟩
  rw [SX2.out] at f7
  have g2 := good_again zs us vs X _ GZ.out (by omega) F5.out f7
  have gd := fun N A' c' w0 hr hN => good_any N A' (n + 4) c' vs l7 (by omega) w0 hr hN
  rw [g2] at gd
  have c7 := cc7.2
  have GD := Lib.hid gd; have O7 := Lib.hid o7
  clear gd o7 f7 l7 cx7 cc7 cb7 g2
  go_wp2_with fail
  refine (GD.out _ _ c _ O7.out.reads (Nat.le_refl _) O7.out.cap.1).mono ?_
  rintro e w8 ⟨rfl, b8⟩
  go_wp2_with fail
  refine (runs_any _).mono ?_
  rintro e w9 ⟨rfl, b9⟩
  go_wp2
  go_ret
  exact ⟨rfl, bstep (bstep b7 b8) b9⟩
end Go.Proofs.Ytikfjaimhmgajaa
