/-
  The walk of the statement BurstApart: for every three slices of bytes, every int and every word the call returns true; nothing that was in memory turns.
-/
import Derived.Test.YtikfjaimhmgajaaURuns
import Derived.Test.YtikfjaimhmgajaaBBytes
import Derived.Test.YtikfjaimhmgajaaWMake
import Derived.Test.YtikfjaimhmgajaaBWithinI
import Derived.Lib.MinMax
import Derived.Deep.DeepCutAuto
import Derived.Deep.RegionHeld3
import Derived.BigRegion
namespace Go.Proofs.Ytikfjaimhmgajaa
set_option linter.unusedVariables false
set_option linter.unusedSimpArgs false
open Go.RowKit

theorem list_map (xs : List Int) (n : Nat) (h : xs.length = n) : xs = (List.range n).map (fun k => xs.getD k 0) := by
  apply List.ext_getElem?
  intro i
  by_cases hi : i < n
  · rw [List.getElem?_map, List.getElem?_range hi, List.getElem?_eq_getElem (by omega)]
    simp [List.getD_eq_getElem?_getD, List.getElem?_eq_getElem (show i < xs.length by omega)]
  · rw [List.getElem?_eq_none (by omega), List.getElem?_eq_none (by simp; omega)]
/-- What the first loop makes. -/
def mix (xs ys zs : List Int) (k : Nat) : Int := xorB (xorB (xs.getD k 0) (ys.getD k 0)) (zs.getD k 0)
def AL (W0 : World) (g n : Nat) (xs ys zs : List Int) (kv : Value) (wr : World) : Prop :=
  ∃ k : Nat, k ≤ n ∧ kv = .int .i64 k ∧ ∃ us, Own wr g g n us ∧ us.length = n ∧ us.take k = (List.range k).map (mix xs ys zs) ∧ Below W0.heap.size W0 wr
theorem crc_mix (n : Nat) (xs ys zs us : List Int) (hx : xs.length = n) (hy : ys.length = n) (hz : zs.length = n) (hu : us.length = n) (h : us.take n = (List.range n).map (mix xs ys zs)) (hU : ∀ k, k < n → U8 (xs.getD k 0) ∧ U8 (ys.getD k 0) ∧ U8 (zs.getD k 0)) : crc us = crc xs ^^^ crc ys ^^^ crc zs := by
  rw [List.take_of_length_le (by omega)] at h
  rw [h]
  conv => rhs; rw [list_map xs n hx, list_map ys n hy, list_map zs n hz]
  exact crc_three n (fun k => xs.getD k 0) (fun k => ys.getD k 0) (fun k => zs.getD k 0) hU

/-- What the second loop leaves. -/
def DL (W0 : World) (base g cap n p : Nat) (xs : List Int) (X : B32) (i : Nat) (w : World) : Prop :=
  ∃ ds, Own w base g cap ds ∧ ds.length = n ∧ feeds ones ds = feeds ones xs ^^^ csteps (8 * (n - p)) (some4 X i) ∧ Below W0.heap.size W0 w
theorem dl_one (ds xs : List Int) (X : B32) (n p i : Nat) (hl : ds.length = n) (hp : p + 4 ≤ n) (hi : i < 4) (hf : feeds ones ds = feeds ones xs ^^^ csteps (8 * (n - p)) (some4 X i)) (hu : U8 (ds.getD (p + i) 0)) :
    feeds ones (ds.set (p + i) (xorB (ds.getD (p + i) 0) (byteOf X i))) = feeds ones xs ^^^ csteps (8 * (n - p)) (some4 X (i + 1)) := by
  rw [feeds_set ones ds _ _ (by omega) hu (byteOf_U8 X i), hf, hl, byte_steps n p i _ (byteOf_U8 X i) hi hp, BitVec.xor_assoc, ← csteps_xor]
  rfl
theorem run_min4 {P : Program} (w : World) (ts : Array TypeId) (t : TypeId) (x y z u : Int) : (Builtin.min_ ts t #[.int .i64 x, .int .i64 y, .int .i64 z, .int .i64 u]).run P w = .ok (.int .i64 (min (min (min x y) z) u)) w := by
  have e : ∀ a b : Int, (if b < a then b else a) = min a b := fun a b => by rw [Int.min_def]; split <;> split <;> omega
  simp [Builtin.min_, Builtin.min2, e]

set_option maxRecDepth 100000 in
set_option maxHeartbeats 2000000 in
theorem apart_any (A B C : Option Addr) (la ca lb cb lc cc : Nat) (as0 bs0 cs0 : List Int) (t : Int) (X : B32) (w : World)
    (hla : as0.length = la) (hlb : bs0.length = lb) (hlc : cs0.length = lc) (hra : RdB w w.heap.size A as0) (hrb : RdB w w.heap.size B bs0) (hrc : RdB w w.heap.size C cs0)
    (ha1 : la ≤ ca) (ha2 : ca ≤ maxLen) (hb1 : lb ≤ cb) (hb2 : cb ≤ maxLen) (hc1 : lc ≤ cc) (hc2 : cc ≤ maxLen) (hA : A = none → ca = 0) (ht : I64 t) :
    Calls Try.prog 6 #[.slice A la ca, .slice B lb cb, .slice C lc cc, .int .i64 t, .int .u32 (wrd X)] w fun e w' => e = .returned (.bool true) ∧ Below w.heap.size w w' := by
  unfold maxLen at ha2 hb2 hc2
  obtain ⟨n, hn⟩ : ∃ n : Nat, n = min (min (min la lb) lc) 60 := ⟨_, rfl⟩
  have e1 : min (min (min (la : Int) (lb : Int)) (lc : Int)) 60 = (n : Int) := by omega
  have n1 : n ≤ 60 := by omega
  have n2 : n ≤ la := by omega
  have n3 : n ≤ lb := by omega
  have n4 : n ≤ lc := by omega
  clear hn
  have HRA := Lib.hid (hra.take n); have HRB := Lib.hid (hrb.take n); have HRC := Lib.hid (hrc.take n); have HA := Lib.hid hA
  have HLA : Hid ((as0.take n).length = n) := Lib.hid (by rw [List.length_take]; omega)
  have HLB : Hid ((bs0.take n).length = n) := Lib.hid (by rw [List.length_take]; omega)
  have HLC : Hid ((cs0.take n).length = n) := Lib.hid (by rw [List.length_take]; omega)
  clear hra hrb hrc hla hlb hlc hA
  generalize as0.take n = xs at *
  generalize bs0.take n = ys at *
  generalize cs0.take n = zs at *
  have km := fun (w : World) => run_min4 (P := Try.prog) w #[3, 3, 3, 3] 3 la lb lc 60
  rw [e1] at km
  go_enter Try.func6, Try.ntmps6
  go_wp2_with (with_reducible refine make_own _ rfl _ _ rfl w.heap.size n rfl rfl ?c1 ?c2 ?_)
  case c1 => omega
  case c2 => exact Nat.le_refl _
  intro w1 os b1
  have OS := Lib.hid os
  clear os
  obtain ⟨g, hg⟩ : ∃ g, g = w.heap.size := ⟨_, rfl⟩
  have hgw : w.heap.size ≤ g := by omega
  have os2 := OS.out
  rw [← hg] at os2
  have OS2 := Lib.hid os2
  clear os2 OS
  have HG := Lib.hid hg
  clear hg
  go_wp2
  rw [← HG.out]
  go_loopw [13, 28] (fun _ kv wr => AL w g n xs ys zs kv wr) (fun _ kv _ => n - (intOf kv).toNat)
  case atStart => exact ⟨0, Nat.zero_le _, rfl, _, OS2.out, zeros_length _, by simp, b1⟩
  case round =>
    obtain ⟨k, hk, rfl, us, ou, hul, htk, bel⟩ := hrel
    by_cases hlt : k < n
    · obtain ⟨ba, oa, rfl, la1, za, ua⟩ := HRA.out k (by rw [HLA.out]; exact hlt)
      obtain ⟨bb, ob, rfl, lb1, zb, ub⟩ := HRB.out k (by rw [HLB.out]; exact hlt)
      obtain ⟨bc, oc, rfl, lc1, zc, uc⟩ := HRC.out k (by rw [HLC.out]; exact hlt)
      have ya : wr.cell? ⟨ba, oa + k, none⟩ = some (.int .u8 (xs.getD k 0)) := by rw [bel.cell (p := ⟨ba, oa + k, none⟩) la1]; exact za
      have yb : wr.cell? ⟨bb, ob + k, none⟩ = some (.int .u8 (ys.getD k 0)) := by rw [bel.cell (p := ⟨bb, ob + k, none⟩) lb1]; exact zb
      have yc : wr.cell? ⟨bc, oc + k, none⟩ = some (.int .u8 (zs.getD k 0)) := by rw [bel.cell (p := ⟨bc, oc + k, none⟩) lc1]; exact zc
      have yu := ou.cell (k := k) (by rw [hul]; exact hlt)
      have fu := ou.frozen k
      have fin : (us.set k (mix xs ys zs k)).take (k + 1) = (List.range (k + 1)).map (mix xs ys zs) := by
        rw [take_set_succ us k _ (by omega), htk, List.range_succ, List.map_append]; rfl
      have O2 := Lib.hid (ou.set k (mix xs ys zs k) (xorB_U8 _ _))
      have L2 : Hid ((us.set k (mix xs ys zs k)).length = n) := Lib.hid (by rw [List.length_set]; exact hul)
      have r1 := xor_u8 (xs.getD k 0) (ys.getD k 0)
      have r2 := xor_u8 (xorB (xs.getD k 0) (ys.getD k 0)) (zs.getD k 0)
      rw [show xorB (xorB (xs.getD k 0) (ys.getD k 0)) (zs.getD k 0) = mix xs ys zs k from rfl] at r2
      have FIN := Lib.hid fin
      clear ou hul htk fin za zb zc
      generalize mix xs ys zs k = V at *
      generalize xorB (xs.getD k 0) (ys.getD k 0) = U at *
      generalize xs.getD k 0 = va at *
      generalize ys.getD k 0 = vb at *
      generalize zs.getD k 0 = vc at *
      generalize us.getD k 0 = vu at *
      have i1 : (k : Int) < (la : Int) := by omega
      have i2 : (k : Int) < (lb : Int) := by omega
      have i3 : (k : Int) < (lc : Int) := by omega
      have i4 : (k : Int) < (n : Int) := by omega
      go_wp2_with fail
      go_region
      all_goals
        go_wp2
        go_roundw
        case rel => exact ⟨k + 1, by omega, by go_num, _, O2.out.drew, L2.out, FIN.out, (bel.setCell hgw _).drew⟩
        case measure => simp [intOf]; omega
    · obtain rfl : k = n := by omega
      have hU : ∀ j, j < k → U8 (xs.getD j 0) ∧ U8 (ys.getD j 0) ∧ U8 (zs.getD j 0) := fun j hj => by
        obtain ⟨_, _, _, _, _, ua⟩ := HRA.out j (by rw [HLA.out]; exact hj)
        obtain ⟨_, _, _, _, _, ub⟩ := HRB.out j (by rw [HLB.out]; exact hj)
        obtain ⟨_, _, _, _, _, uc⟩ := HRC.out j (by rw [HLC.out]; exact hj)
        exact ⟨ua, ub, uc⟩
      have hcrc := crc_mix k xs ys zs us HLA.out HLB.out HLC.out hul htk hU
      have s0 := fun N A' c' w0 hr hN => sum_any N A' k c' us hul (by unfold maxLen; omega) w0 hr hN
      have s1 := fun N A' c' w0 hr hN => sum_any N A' k c' xs HLA.out (by unfold maxLen; omega) w0 hr hN
      have s2 := fun N A' c' w0 hr hN => sum_any N A' k c' ys HLB.out (by unfold maxLen; omega) w0 hr hN
      have s3 := fun N A' c' w0 hr hN => sum_any N A' k c' zs HLC.out (by unfold maxLen; omega) w0 hr hN
      have x1 := xor_u32 (crc xs) (crc ys)
      have x2 := xor_u32 (crc xs ^^^ crc ys) (crc zs)
      rw [hcrc] at s0
      generalize crc xs ^^^ crc ys ^^^ crc zs = Q3 at *
      generalize crc xs ^^^ crc ys = Q2 at *
      have S0 := Lib.hid s0; have S1 := Lib.hid s1; have S2 := Lib.hid s2; have S3 := Lib.hid s3
      have RU := Lib.hid ou; have RA := Lib.hid (HRA.out.below bel); have RB := Lib.hid (HRB.out.below bel); have RC := Lib.hid (HRC.out.below bel)
      have bsz := bel.size
      obtain ⟨v0, v1⟩ := u32_bd X
      clear s0 s1 s2 s3 ou hcrc hU RA RB RC
      have i0 : (0 : Int) ≤ (k : Int) := by omega
      have i1 : (k : Int) ≤ (ca : Int) := by omega
      have i2 : (k : Int) ≤ (cb : Int) := by omega
      have i3 : (k : Int) ≤ (cc : Int) := by omega
      go_wp2_with fail
      go_region_held3 (fun w' => Below wr.heap.size wr w' ∧ True) (first | exact ⟨bstep (And.left (by assumption)) (by assumption), trivial⟩ | exact ⟨(Below.refl _ _).drew, trivial⟩)
        (first
          | (go_at_call 9; obtain ⟨hq, _⟩ := ‹Below wr.heap.size wr _ ∧ _›; (first | (with_reducible refine (S0.out _ _ k _ (RU.out.below hq).reads (Nat.le_refl _)).mono ?_) | (with_reducible refine (S1.out _ _ ca _ (HRA.out.below (bstep bel hq)) (bstep bel hq).size).mono ?_) | (with_reducible refine (S2.out _ _ cb _ (HRB.out.below (bstep bel hq)) (bstep bel hq).size).mono ?_) | (with_reducible refine (S3.out _ _ cc _ (HRC.out.below (bstep bel hq)) (bstep bel hq).size).mono ?_)); rintro e w' ⟨rfl, hbb⟩))
      obtain ⟨bW, -⟩ := ‹Below wr.heap.size wr _ ∧ _›
      rename World => w2
      have B2 := bstep bel bW
      clear bW RU S0 S2 S3 HRB HRC HLB HLC htk x1 x2 i2 i3
      by_cases hk4 : k < 4
      · have d1 : decide ((k : Int) < 4) = true := by simp; omega
        go_wp2_with fail
        refine (runs_any _).mono ?_
        rintro e w3 ⟨rfl, b3⟩
        go_wp2
        go_ret
        exact ⟨rfl, bstep B2 b3⟩
      · have d1 : decide ((k : Int) < 4) = false := by simp; omega
        go_wp2_with fail
        refine (within_in t 0 ((k : Int) - 4) ht (by decide) (by omega) (by omega) (by omega) _).mono ?_
        rintro e w' ⟨y, rfl, y0, y1, rfl⟩
        obtain ⟨p, rfl⟩ := Int.eq_ofNat_of_zero_le y0
        have p1 : p + 4 ≤ k := by omega
        clear y0 y1
        go_wp2_with (at_builtin; go_loud (refine app_rd _ rfl _ _ rfl w2.heap.size w2.heap.size 0 0 [] rfl rfl (Own.empty w2 _ (Nat.le_refl _)) w.heap.size A k ca xs HLA.out rfl ?c3 HA.out ?c4 ?c5 ?_))
        case c3 => exact HRA.out.below (B2.alloc B2.size _)
        case c4 => omega
        case c5 => simp
        intro gd cd w3 od hgr
        have B3 : Below w.heap.size w w3 := below_grown (B2.alloc B2.size _) hgr B2.size
        have gdw : w.heap.size ≤ gd := Nat.le_trans B2.size od.lt.1
        have qd : k ≤ cd := by have := od.cap.1; rw [HLA.out] at this; exact this
        have dl : DL w w2.heap.size gd cd k p xs X 0 w3 := ⟨xs, od, HLA.out, by simp only [some4]; rw [csteps_zero, BitVec.xor_zero], B3⟩
        have HD := Lib.hid dl
        clear od hgr B3 B2 dl
        go_wp2
        go_loopw [16] (fun iv wx => ∃ i : Nat, i ≤ 4 ∧ iv = .int .i64 i ∧ DL w w2.heap.size gd cd k p xs X i wx) (fun iv _ => 4 - (intOf iv).toNat)
        case atStart => exact ⟨0, Nat.zero_le _, rfl, HD.out⟩
        case round =>
          obtain ⟨i, hi, rfl, ds, od, hdl, hdf, bel4⟩ := hrel
          by_cases hi4 : i < 4
          · have hu : U8 (ds.getD (p + i) 0) := od.2 (p + i) (by omega)
            have fin := dl_one ds xs X k p i hdl p1 hi4 hdf hu
            obtain ⟨s, hs⟩ : ∃ s : Nat, s = p + i := ⟨_, rfl⟩
            obtain ⟨r, hrr⟩ : ∃ r : Nat, r = 8 * i := ⟨_, rfl⟩
            have hsk : s < k := by omega
            rw [← hs] at fin hu
            have j1 : IntKind.i64.wrap ((p : Int) + (i : Int)) = (s : Int) := by rw [IntKind.wrap_i64]; omega
            have j2 : IntKind.i64.wrap (8 * (i : Int)) = (r : Int) := by rw [IntKind.wrap_i64]; omega
            have j3 : (0 : Int) ≤ (s : Int) := by omega
            have j4 : (s : Int) < (k : Int) := by omega
            have j5 : r < 32 := by omega
            have j6 := byteOf_wrd X i r hrr
            have j7 : IntKind.u8.wrap (wrd X / 2 ^ r) = byteOf X i := by rw [IntKind.wrap_u8]; exact j6
            have zd := od.cell (k := s) (by omega)
            have fd := od.frozen s
            have j8 := xor_u8 (ds.getD s 0) (byteOf X i)
            have O2 := Lib.hid (od.set s (xorB (ds.getD s 0) (byteOf X i)) (xorB_U8 _ _))
            have L2 : Hid ((ds.set s (xorB (ds.getD s 0) (byteOf X i))).length = k) := Lib.hid (by rw [List.length_set]; exact hdl)
            have FIN := Lib.hid fin
            obtain ⟨ub0, ub1⟩ := byteOf_U8 X i
            obtain ⟨ud0, ud1⟩ := id hu
            clear od hdl hdf hs hrr fin
            generalize xorB (ds.getD s 0) (byteOf X i) = V at *
            generalize byteOf X i = M at *
            generalize ds.getD s 0 = v at *
            go_wp2_with fail
            go_region
            all_goals
              clear j1 j2 j6 j7 j8
              go_wp2
              go_roundw
              case rel => exact ⟨i + 1, by omega, by go_num, _, O2.out.drew, L2.out, FIN.out, (bel4.setCell gdw _).drew⟩
              case measure => simp [intOf]; omega
          · obtain rfl : i = 4 := by omega
            rw [some4_all] at hdf
            have hc := crc_turn xs ds _ X hdf
            have hX : wrd X = 0 ↔ X = 0#32 := ⟨fun h => u32_inj (by rw [h]; decide), fun h => by rw [h]; decide⟩
            have hc' : wrd (crc ds) = wrd (crc xs) ↔ wrd X = 0 := by rw [hX, ← hc]; exact ⟨fun h => u32_inj h, fun h => by rw [h]⟩
            have tests : ∃ z : Bool, (wrd (crc ds) == wrd (crc xs)) = z ∧ (wrd X == 0) = z := by
              by_cases h : wrd X = 0
              · exact ⟨true, by simpa using hc'.2 h, by simpa using h⟩
              · exact ⟨false, by simpa using fun e => h (hc'.1 e), by simpa using h⟩
            obtain ⟨z, t1, t2⟩ := tests
            have sd := fun N A' c' w0 hr hN => sum_any N A' k c' ds hdl (by unfold maxLen; omega) w0 hr hN
            have SD := Lib.hid sd; have OD := Lib.hid od
            clear sd od hdl hdf hc hX hc'
            generalize wrd (crc ds) = SDv at *
            generalize wrd (crc xs) = SXv at *
            rename World => w9
            go_wp2_with fail
            go_region_held3 (fun w' => Below w9.heap.size w9 w' ∧ True) (first | exact ⟨bstep (And.left (by assumption)) (by assumption), trivial⟩ | exact ⟨(Below.refl _ _).drew, trivial⟩)
              (first
                | (go_at_call 9; obtain ⟨hq, _⟩ := ‹Below w9.heap.size w9 _ ∧ _›; (first | (with_reducible refine (SD.out _ _ cd _ (OD.out.below hq).reads (Nat.le_refl _)).mono ?_) | (with_reducible refine (S1.out _ _ ca _ (HRA.out.below (bstep bel4 hq)) (bstep bel4 hq).size).mono ?_)); rintro e w' ⟨rfl, hbb⟩)
                | (go_at_call 3; (with_reducible refine (runs_any _).mono ?_); rintro e w' ⟨rfl, hbb⟩))
            obtain ⟨bW, -⟩ := ‹Below w9.heap.size w9 _ ∧ _›
            go_wp2
            go_ret
            exact ⟨rfl, bstep bel4 bW⟩
end Go.Proofs.Ytikfjaimhmgajaa
