/-
  sheaflaw7.made: a disk of n blocks, a store on it of three files.
-/
import Derived.Test.YtilmicekpclmbaaSRun
import Derived.Test.YtilmicekpclmbaaBWithin
namespace Go.Proofs.Ytilmicekpclmbaa
set_option linter.unusedVariables false
set_option linter.unusedSimpArgs false
set_option maxRecDepth 100000
open Go.RowKit Go.Shelf

theorem i64_lit {x : Int} (h : (Lit.int .i64 x).wf = true) : -9223372036854775808 ≤ x ∧ x ≤ 9223372036854775807 := by
  simp [Lit.wf, IntKind.min, IntKind.max, IntKind.signed, IntKind.bits] at h
  exact ⟨by omega, by omega⟩
def madeFs (S : Nat → Nat) (n : Int) : Option (List Int) := if n = 1 then some (mkB 0 (S 0)) else if n = 2 then some (mkB 1 (S 1)) else if n = 3 then some (mkB 2 (S 2)) else none
theorem madeFs_none (S : Nat → Nat) (n : Int) (h : n < 1 ∨ 3 < n) : madeFs S n = none := by unfold madeFs; rw [if_neg (by omega), if_neg (by omega), if_neg (by omega)]
theorem madeFs_want (S : Nat → Nat) : want (madeFs S) 255 1 = [(1, mkB 0 (S 0)), (2, mkB 1 (S 1)), (3, mkB 2 (S 2))] := by
  rw [show (255 : Nat) = 252 + 1 + 1 + 1 from rfl, want_some (show madeFs S 1 = some (mkB 0 (S 0)) from if_pos rfl), want_some (show madeFs S (1 + 1) = some (mkB 1 (S 1)) by simp [madeFs]), want_some (show madeFs S (1 + 1 + 1) = some (mkB 2 (S 2)) by simp [madeFs]), want_nil (fs := madeFs S) 252 (1 + 1 + 1 + 1) (fun n hn => madeFs_none S n (by omega))]
  rfl
theorem mkB_ok (k : Int) (n : Nat) (hn : n ≤ 300) : (mkB k n).length ≤ 1000 ∧ ∀ j, j < (mkB k n).length → U8 ((mkB k n).getD j 0) := by
  refine ⟨by rw [mkB_len]; omega, fun j hj => ?_⟩
  rw [mkB_len] at hj
  rw [mkB_at _ _ _ hj]
  exact mkE_u8 k j
theorem madeFs_ok (S : Nat → Nat) (hS : ∀ j, S j ≤ 300) : ∀ n bs, madeFs S n = some bs → bs.length ≤ 1000 ∧ ∀ j, j < bs.length → U8 (bs.getD j 0) := fun n bs h => by
  unfold madeFs at h
  split at h
  · injection h with h; subst h; exact mkB_ok _ _ (hS 0)
  · split at h
    · injection h with h; subst h; exact mkB_ok _ _ (hS 1)
    · split at h
      · injection h with h; subst h; exact mkB_ok _ _ (hS 2)
      · cases h
theorem made_form (d n : Nat) (S : Nat → Nat) (hS : ∀ j, S j ≤ 300) (h1 : 24 ≤ n) (h2 : n ≤ 60) : (formF (Dk.new n) d (madeFs S)).1 = 0 ∧ ∃ fl, FormOk (Dk.new n) d (madeFs S) (formF (Dk.new n) d (madeFs S)).2 fl := by
  refine format_room d (Dk.Free.new n) (Dk.Ok.new (by omega) (by omega)) (by show 2 < (List.replicate n (fillB 0)).length; rw [List.length_replicate]; omega) (madeFs S) (madeFs_ok S hS) (fun m hm => madeFs_none S m (by omega)) (by rw [madeFs_want]; show 3 ≤ 14; decide) ?_
  rw [madeFs_want]
  show ((mkB 0 (S 0)).length : Int) + 116 + (((mkB 1 (S 1)).length : Int) + 116 + (((mkB 2 (S 2)).length : Int) + 116 + 0)) ≤ 116 * (((List.replicate n (fillB 0)).length : Int) - 2)
  rw [mkB_len, mkB_len, mkB_len, List.length_replicate]
  have a := hS 0; have b := hS 1; have c := hS 2
  omega
/-- The map of the first k files. -/
def mapE (G S : Nat → Nat) (j : Nat) : Int × Value := (1 + (j : Int), .slice (some ⟨G j, 0, none⟩) (S j) (S j))
def mapL (G S : Nat → Nat) (k : Nat) : List (Int × Value) := (List.range k).map (mapE G S)
theorem look_snoc (l : List (Int × Value)) (m n : Int) (v : Value) : lookL (l ++ [(m, v)]) n = (lookL l n).or (if m = n then some v else none) := by
  unfold lookL
  rw [List.find?_append]
  cases hq : l.find? (fun p => p.1 == n) with
  | some u => rfl
  | none =>
    by_cases e : m = n
    · rw [if_pos e]; simp [e]
    · rw [if_neg e]; simp [e]
theorem mapL_succ (G S : Nat → Nat) (k : Nat) : mapL G S (k + 1) = mapL G S k ++ [mapE G S k] := by unfold mapL; rw [List.range_succ, List.map_append]; rfl
theorem mapL_none (G S : Nat → Nat) : ∀ (k : Nat) (n : Int), n < 1 ∨ (k : Int) < n → lookL (mapL G S k) n = none
  | 0, n, h => rfl
  | k + 1, n, h => by
    rw [mapL_succ]
    show lookL (mapL G S k ++ [(1 + (k : Int), _)]) n = none
    rw [look_snoc, mapL_none G S k n (by omega), if_neg (by omega)]
    rfl
theorem mapL_some (G S : Nat → Nat) : ∀ (k j : Nat), j < k → lookL (mapL G S k) (1 + (j : Int)) = some (.slice (some ⟨G j, 0, none⟩) (S j) (S j))
  | 0, j, h => by omega
  | k + 1, j, h => by
    rw [mapL_succ]
    show lookL (mapL G S k ++ [(1 + (k : Int), _)]) _ = _
    rw [look_snoc]
    by_cases e : j < k
    · rw [mapL_some G S k j e]; rfl
    · obtain rfl : j = k := by omega
      rw [mapL_none G S j _ (by omega), if_pos rfl]
      rfl
theorem mapL_put (G S : Nat → Nat) (k g : Nat) : putL (mapL G S k) (1 + (k : Int)) (.slice (some ⟨g, 0, none⟩) (S k) (S k)) = mapL (fun j => if j = k then g else G j) S (k + 1) := by
  unfold putL
  rw [mapL_none G S k _ (by omega), mapL_succ]
  show mapL G S k ++ [_] = _
  congr 1
  · unfold mapL
    apply List.map_congr_left
    intro j hj
    have : j < k := List.mem_range.1 hj
    simp only [mapE, if_neg (show ¬ j = k by omega)]
  · simp [mapE]
theorem mapL_uniq (G S : Nat → Nat) (k : Nat) : Uniq (mapL G S k) := fun i j hi hj h => by
  have hl : (mapL G S k).length = k := by unfold mapL; simp
  rw [hl] at hi hj
  have e : ∀ i, i < k → ((mapL G S k).getD i (0, undef)).1 = 1 + (i : Int) := fun i hi => by
    unfold mapL
    rw [List.getD_eq_getElem?_getD, List.getElem?_map, List.getElem?_range hi]; rfl
  rw [e i hi, e j hj] at h
  omega
/-- What made leaves. -/
def MadeE (n : Nat) (S : Nat → Nat) (w : World) (e : Ending) (w' : World) : Prop := ∃ (d b : Nat) (F : Nat → Prop) (s : St) (fl : List (Fl × List (Int × List Int))), e = .returned (.tuple #[.pointer (some ⟨d, 0, none⟩), .pointer (some ⟨b, 0, none⟩)]) ∧ StAt w' F b s ∧ FormOk (Dk.new n) d (madeFs S) s fl ∧ (∀ k, F k → w.heap.size ≤ k) ∧ Below w.heap.size w w'
theorem made_map {w3 : World} {mb N : Nat} {Fd : Nat → Prop} {G S : Nat → Nat} (h : MapB w3 mb (mapL G S 3)) (hS : ∀ j, S j ≤ 300) (hF : ∀ k, Fd k → k < N) (hN : N ≤ mb) (ho : ∀ j, j < 3 → ∃ B0, mb < B0 ∧ Own w3 B0 (G j) (S j) (mkB (j : Int) (S j))) : MapR w3 w3.heap.size Fd (.map (some mb)) (mapL G S 3) (madeFs S) := by
  refine ⟨Or.inr ⟨mb, rfl, h, h.lt, fun e => by have := hF _ e; omega⟩, fun n hn => ?_, fun n v hn => ?_⟩
  · by_cases hc : n < 1 ∨ 3 < n
    · exact madeFs_none S n hc
    · exfalso
      have q := mapL_some G S 3 (n - 1).toNat (by omega)
      rw [show 1 + (((n - 1).toNat : Nat) : Int) = n by omega, hn] at q
      cases q
  · by_cases hc : n < 1 ∨ 3 < n
    · rw [mapL_none G S 3 n (by omega)] at hn; cases hn
    · obtain ⟨j, hj, rfl⟩ : ∃ j : Nat, j < 3 ∧ n = 1 + (j : Int) := ⟨(n - 1).toNat, by omega, by omega⟩
      rw [mapL_some G S 3 j hj] at hn
      injection hn with hn
      subst hn
      obtain ⟨B0, hB0, hown⟩ := ho j hj
      have hlt := hown.lt
      have hs := hS j
      refine ⟨mkB (j : Int) (S j), some ⟨G j, 0, none⟩, S j, ?_, by rw [mkB_len], by rw [mkB_len]; exact Nat.le_refl _, by unfold maxLen; omega, by rw [mkB_len]; omega, hown.reads, fun a ha => ?_⟩
      · have : j = 0 ∨ j = 1 ∨ j = 2 := by omega
        rcases this with rfl | rfl | rfl
        · rfl
        · simp [madeFs]
        · simp [madeFs]
      · injection ha with ha
        subst ha
        exact ⟨fun e => by have e : Fd (G j) := e; have := hF _ e; omega, by show G j < _; omega⟩
theorem idx3_0 (a b c : Int) (w : World) : (Instr.index 54 (.agg #[.int .i64 a, .int .i64 b, .int .i64 c]) (.int .i64 0)).run Try.prog w = .ok (.int .i64 a) w := by kernel_rfl
theorem idx3_1 (a b c : Int) (w : World) : (Instr.index 54 (.agg #[.int .i64 a, .int .i64 b, .int .i64 c]) (.int .i64 1)).run Try.prog w = .ok (.int .i64 b) w := by kernel_rfl
theorem idx3_2 (a b c : Int) (w : World) : (Instr.index 54 (.agg #[.int .i64 a, .int .i64 b, .int .i64 c]) (.int .i64 2)).run Try.prog w = .ok (.int .i64 c) w := by kernel_rfl
set_option maxHeartbeats 4000000 in
theorem made_any (nb : Int) (X : Nat → Int) (hnb : -9223372036854775808 ≤ nb ∧ nb ≤ 9223372036854775807) (hX : ∀ j, -9223372036854775808 ≤ X j ∧ X j ≤ 9223372036854775807) (w : World) :
    Calls Try.prog 18 #[.int .i64 nb, .agg #[.int .i64 (X 0), .int .i64 (X 1), .int .i64 (X 2)]] w (MadeE (24 + nb % 37).toNat (fun j => (X j % 301).toNat) w) := by
  obtain ⟨n, hn⟩ : ∃ n, (24 + nb % 37).toNat = n := ⟨_, rfl⟩
  obtain ⟨S, hS⟩ : ∃ S : Nat → Nat, (fun j => (X j % 301).toNat) = S := ⟨_, rfl⟩
  have n0 := Int.emod_nonneg nb (show (37 : Int) ≠ 0 by decide)
  have n1 := Int.emod_lt_of_pos nb (show (0 : Int) < 37 by decide)
  have hn1 : 24 ≤ n ∧ n ≤ 60 := by omega
  have hSx : ∀ j, X j % 301 = ((S j : Nat) : Int) ∧ S j ≤ 300 := fun j => by
    have a := Int.emod_nonneg (X j) (show (301 : Int) ≠ 0 by decide)
    have b := Int.emod_lt_of_pos (X j) (show (0 : Int) < 301 by decide)
    have e : S j = (X j % 301).toNat := by rw [← hS]
    omega
  have WN := Lib.hid (fun W => show Calls Try.prog 19 #[.int .i64 nb, .int .i64 24, .int .i64 60] W fun e w' => e = .returned (.int .i64 (n : Int)) ∧ W = w' from (bwithin_any nb 24 60 hnb.1 hnb.2 (by decide) (by decide) (by decide) (by decide) W).mono (fun e w' ⟨he, hw⟩ => ⟨by rw [he]; congr 2; show 24 + nb % (60 - 24 + 1) = _; have : nb % (60 - 24 + 1) = nb % 37 := rfl; omega, hw⟩))
  have WS := Lib.hid (fun j W => show Calls Try.prog 19 #[.int .i64 (X j), .int .i64 0, .int .i64 300] W fun e w' => e = .returned (.int .i64 ((S j : Nat) : Int)) ∧ W = w' from (bwithin_any (X j) 0 300 (hX j).1 (hX j).2 (by decide) (by decide) (by decide) (by decide) W).mono (fun e w' ⟨he, hw⟩ => ⟨by rw [he]; congr 2; have := (hSx j).1; have e9 : X j % (300 - 0 + 1) = X j % 301 := rfl; omega, hw⟩))
  have NW := Lib.hid (fun W => disk_new n (by omega) (by omega) W)
  rw [hn, hS]
  have HS := Lib.hid (fun j => (hSx j).2)
  have HN := Lib.hid hn1
  clear hn hS n0 n1 hSx hnb hX
  obtain ⟨x0, hx0⟩ : ∃ x, X 0 = x := ⟨_, rfl⟩
  obtain ⟨x1, hx1⟩ : ∃ x, X 1 = x := ⟨_, rfl⟩
  obtain ⟨x2, hx2⟩ : ∃ x, X 2 = x := ⟨_, rfl⟩
  have WS0 := Lib.hid (fun W => WS.out 0 W); have WS1 := Lib.hid (fun W => WS.out 1 W); have WS2 := Lib.hid (fun W => WS.out 2 W)
  rw [hx0] at WS0 ⊢; rw [hx1] at WS1 ⊢; rw [hx2] at WS2 ⊢
  clear WS hx0 hx1 hx2
  go_enter Try.func18, Try.ntmps18
  go_upto_region 1 with fail
  obtain ⟨v0, hv0⟩ : ∃ W, W = w.alloc (.cells #[.int .i64 x0, .int .i64 x1, .int .i64 x2] 54) := ⟨_, rfl⟩
  obtain ⟨bx, hbx⟩ : ∃ z, w.heap.size = z := ⟨_, rfl⟩
  rw [← hv0, hbx]
  have B0 := Lib.hid (show Below w.heap.size w v0 by rw [hv0]; exact (Below.refl _ _).alloc (Nat.le_refl _) _)
  have A0 := Lib.hid (show Arr v0 bx 54 [.int .i64 x0, .int .i64 x1, .int .i64 x2] by rw [hv0, ← hbx]; exact Arr.new w _ [_, _, _])
  have HBX := Lib.hid hbx
  clear hv0 hbx
  go_wp2_with fail
  refine (WN.out _).mono ?_
  rintro e v1 ⟨rfl, rfl⟩
  go_wp2_with fail
  refine (NW.out _).mono ?_
  rintro e w1 ⟨d, Fd, rfl, hd, hF, hb⟩
  have D1 := Lib.hid hd; have HF := Lib.hid hF; have B1 := Lib.hid hb
  clear NW WN hd hF hb
  go_wp2_with (with_reducible refine make_map rfl rfl ?_)
  intro w1' mb1 b1' z1'
  obtain ⟨mb, hmb⟩ : ∃ mb, mb = w1.heap.size := ⟨_, rfl⟩
  rw [← hmb] at mb1 ⊢
  have ab := Arr.below (Arr.below A0.out B1.out) b1'
  have MB1 := Lib.hid mb1; have B1' := Lib.hid b1'; have HMB := Lib.hid hmb
  clear mb1 b1' z1' hmb
  have y0 : w1'.cell? ⟨bx, 0, none⟩ = some (.int .i64 x0) := Arr.cell ab 0
  have y1 : w1'.cell? ⟨bx, 1, none⟩ = some (.int .i64 x1) := Arr.cell ab 1
  have y2 : w1'.cell? ⟨bx, 2, none⟩ = some (.int .i64 x2) := Arr.cell ab 2
  clear ab
  go_wp2_with fail
  go_loopw [19] (fun iv wr => ∃ (k : Nat) (G : Nat → Nat), k ≤ 3 ∧ iv = .int .i64 k ∧ MapB wr mb (mapL G S k) ∧ (∀ j, j < k → ∃ B0, mb < B0 ∧ Own wr B0 (G j) (S j) (mkB (j : Int) (S j))) ∧ Below w1.heap.size w1 wr) (fun iv _ => 3 - (intOf iv).toNat)
  case atStart => exact ⟨0, fun _ => 0, Nat.zero_le _, rfl, MB1.out, fun j hj => (by omega), B1'.out⟩
  case round =>
    obtain ⟨k, G, hk3, rfl, hmp, hown, hbw⟩ := hrel
    have HM := Lib.hid hmp; have HO := Lib.hid hown; have HB := Lib.hid hbw
    clear hmp hown hbw
    have hk : k = 0 ∨ k = 1 ∨ k = 2 ∨ k = 3 := by omega
    clear hk3 y0 y1 y2
    rcases hk with rfl | rfl | rfl | rfl
    · have ix := fun W => idx3_0 x0 x1 x2 W
      have MK := Lib.hid (mk_any 0 (S 0) ⟨by decide, by decide⟩ (by have := HS.out 0; omega) wr)
      go_wp2_with fail
      refine (WS0.out _).mono ?_
      rintro e v2 ⟨rfl, rfl⟩
      go_wp2_with fail
      refine MK.out.mono ?_
      rintro e w2 ⟨g, rfl, hown, hb⟩
      have mlt := HM.out.lt
      obtain ⟨w3, hput, hm3, k3, z3⟩ := run_putB (HM.out.below hb) (mapL_uniq G S 0) 1 (.slice (some ⟨g, 0, none⟩) (S 0) (S 0))
      have MP := mapL_put G S 0 g
      rw [show (1 + ((0 : Nat) : Int)) = 1 from rfl] at MP
      rw [MP] at hm3
      have OW : ∀ j, j < 0 + 1 → ∃ B0, mb < B0 ∧ Own w3 B0 (if j = 0 then g else G j) (S j) (mkB (j : Int) (S j)) := fun j hj => by
        by_cases e : j = 0
        · subst e
          rw [if_pos rfl]
          exact ⟨wr.heap.size, mlt, k3.own hown (fun e => by have := hown.lt; have e : g = mb := e; omega)⟩
        · rw [if_neg e]
          obtain ⟨B0, h1, h2⟩ := HO.out j (by omega)
          exact ⟨B0, h1, k3.own (h2.below hb) (fun e => by have := h2.lt; have e : G j = mb := e; omega)⟩
      have BW3 : Below w1.heap.size w1 w3 := Keep.below k3 (fun q hq => by have := HMB.out; have hq : q = mb := hq; omega) (HB.out.trans (hb.mono HB.out.size)) (Nat.le_trans HB.out.size hb.size)
      have M3 := Lib.hid hm3; have OW3 := Lib.hid OW; have BW := Lib.hid BW3
      clear hown hb hm3 k3 z3 MP OW BW3 MK
      go_wp2_with fail
      go_roundw
      case rel => exact ⟨0 + 1, fun j => if j = 0 then g else G j, by omega, by go_num, M3.out, OW3.out, BW.out⟩
      case measure => simp [intOf]
    · have ix := fun W => idx3_1 x0 x1 x2 W
      have MK := Lib.hid (mk_any 1 (S 1) ⟨by decide, by decide⟩ (by have := HS.out 1; omega) wr)
      go_wp2_with fail
      refine (WS1.out _).mono ?_
      rintro e v2 ⟨rfl, rfl⟩
      go_wp2_with fail
      refine MK.out.mono ?_
      rintro e w2 ⟨g, rfl, hown, hb⟩
      have mlt := HM.out.lt
      obtain ⟨w3, hput, hm3, k3, z3⟩ := run_putB (HM.out.below hb) (mapL_uniq G S 1) 2 (.slice (some ⟨g, 0, none⟩) (S 1) (S 1))
      have MP := mapL_put G S 1 g
      rw [show (1 + ((1 : Nat) : Int)) = 2 from rfl] at MP
      rw [MP] at hm3
      have OW : ∀ j, j < 1 + 1 → ∃ B0, mb < B0 ∧ Own w3 B0 (if j = 1 then g else G j) (S j) (mkB (j : Int) (S j)) := fun j hj => by
        by_cases e : j = 1
        · subst e
          rw [if_pos rfl]
          exact ⟨wr.heap.size, mlt, k3.own hown (fun e => by have := hown.lt; have e : g = mb := e; omega)⟩
        · rw [if_neg e]
          obtain ⟨B0, h1, h2⟩ := HO.out j (by omega)
          exact ⟨B0, h1, k3.own (h2.below hb) (fun e => by have := h2.lt; have e : G j = mb := e; omega)⟩
      have BW3 : Below w1.heap.size w1 w3 := Keep.below k3 (fun q hq => by have := HMB.out; have hq : q = mb := hq; omega) (HB.out.trans (hb.mono HB.out.size)) (Nat.le_trans HB.out.size hb.size)
      have M3 := Lib.hid hm3; have OW3 := Lib.hid OW; have BW := Lib.hid BW3
      clear hown hb hm3 k3 z3 MP OW BW3 MK
      go_wp2_with fail
      go_roundw
      case rel => exact ⟨1 + 1, fun j => if j = 1 then g else G j, by omega, by go_num, M3.out, OW3.out, BW.out⟩
      case measure => simp [intOf]
    · have ix := fun W => idx3_2 x0 x1 x2 W
      have MK := Lib.hid (mk_any 2 (S 2) ⟨by decide, by decide⟩ (by have := HS.out 2; omega) wr)
      go_wp2_with fail
      refine (WS2.out _).mono ?_
      rintro e v2 ⟨rfl, rfl⟩
      go_wp2_with fail
      refine MK.out.mono ?_
      rintro e w2 ⟨g, rfl, hown, hb⟩
      have mlt := HM.out.lt
      obtain ⟨w3, hput, hm3, k3, z3⟩ := run_putB (HM.out.below hb) (mapL_uniq G S 2) 3 (.slice (some ⟨g, 0, none⟩) (S 2) (S 2))
      have MP := mapL_put G S 2 g
      rw [show (1 + ((2 : Nat) : Int)) = 3 from rfl] at MP
      rw [MP] at hm3
      have OW : ∀ j, j < 2 + 1 → ∃ B0, mb < B0 ∧ Own w3 B0 (if j = 2 then g else G j) (S j) (mkB (j : Int) (S j)) := fun j hj => by
        by_cases e : j = 2
        · subst e
          rw [if_pos rfl]
          exact ⟨wr.heap.size, mlt, k3.own hown (fun e => by have := hown.lt; have e : g = mb := e; omega)⟩
        · rw [if_neg e]
          obtain ⟨B0, h1, h2⟩ := HO.out j (by omega)
          exact ⟨B0, h1, k3.own (h2.below hb) (fun e => by have := h2.lt; have e : G j = mb := e; omega)⟩
      have BW3 : Below w1.heap.size w1 w3 := Keep.below k3 (fun q hq => by have := HMB.out; have hq : q = mb := hq; omega) (HB.out.trans (hb.mono HB.out.size)) (Nat.le_trans HB.out.size hb.size)
      have M3 := Lib.hid hm3; have OW3 := Lib.hid OW; have BW := Lib.hid BW3
      clear hown hb hm3 k3 z3 MP OW BW3 MK
      go_wp2_with fail
      go_roundw
      case rel => exact ⟨2 + 1, fun j => if j = 2 then g else G j, by omega, by go_num, M3.out, OW3.out, BW.out⟩
      case measure => simp [intOf]
    · have hFd : ∀ q, Fd q → q < w1.heap.size := D1.out.lt
      have MR := Lib.hid (made_map HM.out HS.out hFd (by have := HMB.out; omega) HO.out)
      have FM := Lib.hid (format_any Fd d (Dk.new n) (.map (some mb)) _ (madeFs S) wr (D1.out.stay (fun q hq => HB.out.block q (hFd q hq))) (by show ([] : List Nat).length ≤ 500; decide) (by show (0 : Nat) ≤ 500000; decide) MR.out)
      obtain ⟨hf0, fl, hfo⟩ := made_form d n S HS.out HN.out.1 HN.out.2
      have HFO := Lib.hid hfo
      go_wp2_with fail
      refine FM.out.mono ?_
      rintro e w4 (⟨h0, b, F4, rfl, hst, k4, sb4⟩ | ⟨h0, _⟩)
      case inr => exact absurd hf0 h0
      have hB1 := B1.out.size
      have hB0 := B0.out.size
      have hww : Below w.heap.size w wr := (B0.out.trans (B1.out.mono hB0)).trans (HB.out.mono (Nat.le_trans hB0 hB1))
      have FIN : Hid (MadeE n S w (.returned (.tuple #[.pointer (some ⟨d, 0, none⟩), .pointer (some ⟨b, 0, none⟩)])) w4) := Lib.hid ⟨d, b, F4, _, fl, rfl, hst, HFO.out, fun q hq => (by
        rcases sb4 q hq with e | e
        · have := HF.out q e; omega
        · have := hww.size; omega), Keep.below k4 (fun q hq => by have := HF.out q hq; omega) hww hww.size⟩
      clear FM hst k4 sb4 h0 hf0 hfo hFd hB1 hB0 hww
      go_wp2_with fail
      go_ret2
      exact FIN.out
end Go.Proofs.Ytilmicekpclmbaa
